"""Nets that tests draw, run gate by gate without the package's running, and numbers in their wires."""

from guessedzeros.nets import Net


def drawn_net(drawn, inputs, gates):
    """A net of all kinds of gates, that gives nothing yet."""
    net = Net(inputs)
    for at in range(inputs, inputs + gates):
        kind = drawn.choice(("both", "either", "unlike", "other", "fixed"))
        one, other = drawn.randrange(at), drawn.randrange(max(0, at - 9), at)
        if kind == "fixed":
            net.fixed(drawn.randrange(2))
        elif kind == "other":
            net.other(other)
        else:
            getattr(net, kind)(one, other)
    return net


def wires_of_case(net, bits):
    """The bit of every wire, where the inputs have these bits."""
    wires = [bool(bit) for bit in bits]
    for kind, *told in net.gates():
        if kind == "fixed":
            wires.append(bool(told[0]))
            continue
        handed = [wires[wire] for wire in told]
        wires.append({"both": all(handed), "either": any(handed), "unlike": len(set(handed)) == 2,
                      "other": not handed[0]}[kind])
    return [int(wire) for wire in wires]


def bits_of(number, many):
    return [int(figure) for figure in bin(number)[2:].zfill(many)[-many:]] if many else []


def number_of(bits):
    return int("0" + "".join(str(bit) for bit in bits), 2)


def values_of(cases):
    """For each input the number that has its bit of every case, of cases told by lists of bits."""
    return [number_of(reversed(column)) for column in zip(*cases)]
