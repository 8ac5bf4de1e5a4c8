"""Nets that tests draw, run gate by gate without the package's running, and numbers in their wires."""

from guessedzeros.nets import Net


def drawn_net(drawn, inputs, gates):
    """A net of all kinds of gates, that gives nothing yet."""
    net = Net(inputs)
    for at in range(inputs, inputs + gates):
        kind = drawn.choice(("both", "either", "unlike", "other", "fixed"))
        one, other = drawn.randrange(at), drawn.randrange(max(0, at - 9), at)
        if kind == "fixed":
            net.fixed(drawn.randrange(2))
        elif kind == "other":
            net.other(other)
        else:
            getattr(net, kind)(one, other)
    return net


def wires_of_case(net, bits):
    """The bit of every wire, where the inputs have these bits."""
    wires = [bool(bit) for bit in bits]
    for kind, *told in net.gates():
        if kind == "fixed":
            wires.append(bool(told[0]))
            continue
        handed = [wires[wire] for wire in told]
        wires.append({"both": all(handed), "either": any(handed), "unlike": len(set(handed)) == 2,
                      "other": not handed[0]}[kind])
    return [int(wire) for wire in wires]


def bits_of(number, many):
    return [int(figure) for figure in bin(number)[2:].zfill(many)[-many:]] if many else []


def number_of(bits):
    return int("0" + "".join(str(bit) for bit in bits), 2)


def values_of(cases):
    """For each input the number that has its bit of every case, of cases told by lists of bits."""
    return [number_of(reversed(column)) for column in zip(*cases)]


def numbers_in_cases(numbers, many):
    """For each case the number that wires tell, of the numbers that ran told of them."""
    if not numbers:
        return [0] * many
    columns = zip(*[bin(number)[2:].zfill(many) for number in numbers])
    return [int("".join(column), 2) for column in columns][::-1]


def state_of(net):
    """All that a net tells of itself."""
    wires = range(net.inputs() + len(net))
    return (net.inputs(), net.gates(), len(net), [(name, net.given(name)) for name in net.names()],
            [net.depth(wire) for wire in wires])


def rebuilt(net, gates):
    """A net of these gates, that gives by the same names the same wires."""
    other = Net(net.inputs())
    for kind, *told in gates:
        getattr(other, kind)(*told)
    for name in net.names():
        other.give(name, net.given(name))
    return other


def with_given(net, changed):
    """A net of the same gates, that gives by some names other wires."""
    other = Net(net.inputs())
    for kind, *told in net.gates():
        getattr(other, kind)(*told)
    for name in net.names():
        other.give(name, changed.get(name, net.given(name)))
    return other
