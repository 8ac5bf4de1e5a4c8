"""Nets that are run: many cases at once, each a bit of every wire's number."""

from guessedzeros.digits import worth_of


def ran(net, values, *, many=1):
    full = (1 << many) - 1
    wires = [value & full for value in values]
    for gate in net.gates():
        wires.append(gate_bits(gate, wires, full))
    return [(name, [wires[wire] for wire in net.given(name)]) for name in net.names()]


def gate_bits(gate, wires, full):
    kind = gate[0]
    if kind == "fixed":
        return full if gate[1] == 1 else 0
    one = wires[gate[1]]
    if kind == "other":
        return one ^ full
    other = wires[gate[2]]
    if kind == "both":
        return one & other
    if kind == "either":
        return one | other
    return one ^ other


def all_cases(many):
    return [place_in_cases(place, many) for place in range(many - 1, -1, -1)]


def place_in_cases(place, many):
    """The number whose bit j, of 2 ** many, is the bit at that place of j."""
    size = 1 << place
    number = ((1 << size) - 1) << size
    for doubled in range(place + 1, many):
        number |= number << (1 << doubled)
    return number


def one_case(net, word):
    values = [(word >> place) & 1 for place in range(net.inputs() - 1, -1, -1)]
    return [(name, worth_of(bits)) for name, bits in ran(net, values)]
