"""What gates tell where only some inputs are known."""


def settled(net, cube):
    signs = list(cube)
    for gate in net.gates():
        signs.append(gate_sign(gate, signs))
    return [(name, "".join([signs[wire] for wire in net.given(name)])) for name in net.names()]


def gate_sign(gate, signs):
    kind = gate[0]
    if kind == "fixed":
        return "1" if gate[1] == 1 else "0"
    one = signs[gate[1]]
    if kind == "other":
        return turned_sign(one)
    other = signs[gate[2]]
    if kind == "both":
        return ruled_sign(one, other, "0")
    if kind == "either":
        return ruled_sign(one, other, "1")
    if "-" in (one, other):
        return "-"
    return "0" if one == other else "1"


def turned_sign(sign):
    if sign == "-":
        return "-"
    return "1" if sign == "0" else "0"


def ruled_sign(one, other, ruling):
    """The ruling sign where one is, the other sign where both are, else open."""
    if ruling in (one, other):
        return ruling
    return "-" if "-" in (one, other) else one
