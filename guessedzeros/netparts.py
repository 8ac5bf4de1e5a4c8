"""Parts of nets: each puts its gates in the net that is handed in, and tells their wires."""


def sum_wires(net, ones, others, carry):
    total = []
    for one, other in zip(ones[::-1], others[::-1]):
        half = net.unlike(one, other)
        total.append(net.unlike(half, carry))
        carry = net.either(net.both(one, other), net.both(half, carry))
    return [carry, *total[::-1]]


def quick_sum_wires(net, ones, others, carry):
    halves = [net.unlike(one, other) for one, other in zip(ones[::-1], others[::-1])]
    pairs = [net.both(one, other) for one, other in zip(ones[::-1], others[::-1])]
    # The carry stands below all places: it's carried out of there whatever else is so.
    carries = carry_wires(net, [(carry, None)] + list(zip(pairs, halves)))
    total = [net.unlike(half, into) for half, into in zip(halves, carries)]
    return [carries[-1], *total[::-1]]


def carry_wires(net, spans):
    """What is carried out of each place, the least first, a few gates deep.

    A span is (makes, passes) of a place and some below it: whether it carries by itself, and whether what
    is carried into it goes through; None where it reaches down to the least. They're doubled till all do.
    """
    size = 1
    while size < len(spans):
        spans = [span_doubled(net, spans, place, size) for place in range(len(spans))]
        size *= 2
    return [makes for makes, passes in spans]


def span_doubled(net, spans, place, size):
    if place // size % 2 == 0:
        return spans[place]
    makes, passes = spans[place]
    makes_below, passes_below = spans[place // size * size - 1]
    makes = net.either(makes, net.both(passes, makes_below))
    return makes, (None if passes_below is None else net.both(passes, passes_below))


def shift_wires(net, ones, by):
    many = len(ones)
    nought = net.fixed(0)
    kept = list(ones)
    more = nought
    for amount, wire in shift_amounts(net, many, by):
        lost = any_wire(net, kept[many - amount:])
        more = net.either(more, net.both(wire, lost))
        kept = chosen_wires(net, wire, [nought] * amount + kept[:many - amount], kept)
    return kept, more


def left_wires(net, ones, by):
    nought = net.fixed(0)
    kept = list(ones)
    for amount, wire in shift_amounts(net, len(ones), by):
        kept = chosen_wires(net, wire, kept[amount:] + [nought] * amount, kept)
    return kept


def shift_amounts(net, many, by):
    """(amount, wire) for each amount below many, and one of many for all wires that go so far or beyond."""
    near = []
    far = []
    for place, wire in enumerate(by[::-1]):
        if 1 << place < many:
            near.append((1 << place, wire))
        else:
            far.append(wire)
    return near if far == [] else [*near, (many, any_wire(net, far))]


def any_wire(net, wires):
    if len(wires) == 0:
        return net.fixed(0)
    found = wires[0]
    for wire in wires[1:]:
        found = net.either(found, wire)
    return found


def zero_wires(net, ones):
    firsts = first_wires(net, ones)
    bits = []
    for place in range(len(ones).bit_length() - 1, -1, -1):
        bits.append(any_wire(net, [wire for zeros, wire in enumerate(firsts) if zeros & (1 << place) != 0]))
    return bits


def first_wires(net, ones):
    """For each place whether the first 1 stands there, and at the end whether there is none."""
    firsts = []
    clear = net.fixed(1)
    for one in ones:
        firsts.append(net.both(clear, one))
        clear = net.both(clear, net.other(one))
    return [*firsts, clear]


def mark_wires(net, ones, others):
    digits = [net.unlike(one, other) for one, other in zip(ones, others)]
    marks = []
    for place in range(len(digits) - 1):
        # Of digits that aren't 0, ones tells the sign: where they're unlike there, one is the other's opposite.
        bars = net.unlike(ones[place], ones[place + 1])
        if place > 0:
            # Behind a digit that isn't 0 it's the same one that bars, not the opposite.
            bars = net.unlike(bars, digits[place - 1])
        marks.append(net.both(digits[place], net.other(net.both(digits[place + 1], bars))))
    return marks + digits[-1:]


def chosen_wires(net, wire, ones, others):
    stays = net.other(wire)
    return [net.either(net.both(wire, one), net.both(stays, other)) for one, other in zip(ones, others)]


def is_less_wire(net, ones, others):
    many = max(len(ones), len(others))
    ones = lengthened(net, ones, many)
    others = lengthened(net, others, many)
    less = net.fixed(0)
    for one, other in zip(ones[::-1], others[::-1]):
        turned = net.other(one)
        less = net.either(net.both(turned, other), net.both(net.either(turned, other), less))
    return less


def lengthened(net, wires, many):
    """As long as many wires, with noughts ahead, so that it's the same number."""
    if len(wires) >= many:
        return list(wires)
    return [net.fixed(0)] * (many - len(wires)) + list(wires)


def raise_wires(net, ones, wire):
    total = []
    for one in ones[::-1]:
        total.append(net.unlike(one, wire))
        wire = net.both(one, wire)
    return [wire, *total[::-1]]


def times_wires(net, ones, others):
    nought = net.fixed(0)
    total = [nought] * len(ones)
    ended = []
    for other in others[::-1]:
        row = [net.both(one, other) for one in ones]
        # Nothing is added to the last wire any more: the next row begins a place above it.
        *total, last = sum_wires(net, total, row, nought)
        ended.append(last)
    return total + ended[::-1]
