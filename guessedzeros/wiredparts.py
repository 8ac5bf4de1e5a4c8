"""What units of gates share: words that are read, totals that are rounded, and what is told at the end."""

from guessedzeros.digits import digits_of
from guessedzeros.netparts import any_wire, chosen_wires, is_less_wire, left_wires, lengthened, sum_wires, zero_wires
from guessedzeros.nets import Net


def unit_net(form):
    """A net whose inputs are two words and a way, and the wires of each."""
    width = form.width()
    wires = list(range(2 * width + 2))
    return Net(len(wires)), wires[:width], wires[width:2 * width], wires[2 * width:]


def number_wires(net, number, many):
    return [net.fixed(bit) for bit in digits_of(number, 0, many)]


def all_wire(net, wires):
    found = wires[0]
    for wire in wires[1:]:
        found = net.both(found, wire)
    return found


def turned_wires(net, wires):
    return [net.other(wire) for wire in wires]


def masked_wires(net, wire, wires):
    """These where the wire is 1, else noughts."""
    return [net.both(wire, one) for one in wires]


def less_wires(net, ones, others):
    """Ones less others, and whether it isn't below 0; lists that are as long."""
    holds, *total = sum_wires(net, ones, turned_wires(net, others), net.fixed(1))
    return total, holds


def lesser_wires(net, ones, others):
    less = is_less_wire(net, ones, others)
    return chosen_wires(net, less, ones, others)


def read_wires(net, form, word):
    scale = word[1:form.scale + 1]
    tail = word[form.scale + 1:]
    is_scaled = any_wire(net, scale)
    is_tailed = any_wire(net, tail)
    is_top = all_wire(net, scale)
    return {
        "sign": word[0],
        # Small words have the scale of the least plain ones, but no bit ahead of the tail.
        "scale": [*scale[:-1], net.either(scale[-1], net.other(is_scaled))],
        "head": [is_scaled, *tail],
        "nought": net.other(net.either(is_scaled, is_tailed)),
        "endless": net.both(is_top, net.other(is_tailed)),
        "none": net.both(is_top, is_tailed),
    }


def rounded_wires(net, form, sign, total, above, more, way):
    """The word without its sign, and its flags over, under and rounded.

    The number above is how far the first wire of total stands above the first one of least_plain's head;
    where it's 0, more may be so without any bit of total.
    """
    many = max(len(above), len(total).bit_length())
    above = lengthened(net, above, many)
    zeros = lengthened(net, zero_wires(net, total), many)
    # So far and no further: small words keep zeros ahead.
    by = lesser_wires(net, zeros, above)
    shifted = left_wires(net, total, by)
    kept = shifted[:form.tail + 1]
    half = shifted[form.tail + 1]
    below = any_wire(net, [*shifted[form.tail + 2:], more])
    is_cut = net.either(half, below)
    is_near, goes_away = way_wires(net, sign, way)
    up = net.either(
        net.both(is_near, net.both(half, net.either(below, kept[-1]))),
        net.both(goes_away, is_cut))
    scale = masked_wires(net, any_wire(net, total), less_wires(net, above, by)[0])
    size = scaled_sum(net, form, scale, kept, up)
    over = beyond_wire(net, form, size)
    under = net.both(is_cut, net.other(kept[0]))
    most = most_wires(net, form, net.either(is_near, goes_away))
    word = chosen_wires(net, over, most, size[-len(most):])
    return word, [over, under, net.either(over, is_cut)]


def way_wires(net, sign, way):
    """Whether the way is NEAR, and whether it goes away from 0 with this sign (NEAR doesn't)."""
    is_near = net.other(net.either(way[0], way[1]))
    # UP goes away with sign 0, DOWN with sign 1: the last wire of the way is just that sign.
    goes_away = net.both(way[0], net.other(net.unlike(way[1], sign)))
    return is_near, goes_away


def scaled_sum(net, form, scale, kept, up):
    # The bit ahead of the tail raises the scale by one; without it the word is small, and its scale 0. So does
    # a rise through all of the tail: words are counted through without a gap.
    ones = scale + number_wires(net, 0, form.tail)
    return sum_wires(net, ones, lengthened(net, kept, len(ones)), up)


def beyond_wire(net, form, size):
    """Whether the scale is top at least."""
    scale = size[:-form.tail]
    return net.either(any_wire(net, scale[:-form.scale]), all_wire(net, scale[-form.scale:]))


def most_wires(net, form, is_endless):
    """Endless where the wire is 1, else greatest."""
    ahead = number_wires(net, form.top() >> 1, form.scale - 1)
    return ahead + [is_endless] + [net.other(is_endless)] * form.tail


def give_told(net, form, sign, rounding, bad, is_none, is_endless):
    """Gives "word" and "flags": of none, where one is or it's bad, then endless, else what was rounded."""
    size, flags = rounding
    no_word = net.either(is_none, bad)
    ends = net.either(no_word, is_endless)
    endless = number_wires(net, form.endless(), form.width() - 1)
    word = [sign] + chosen_wires(net, is_endless, endless, size)
    none_word = number_wires(net, form.none_word(), form.width())
    net.give("word", chosen_wires(net, no_word, none_word, word))
    net.give("flags", [bad, net.fixed(0)] + masked_wires(net, net.other(ends), flags))
