"""Units made of gates: a sum, a product, and the guess of zeros."""

from guessedzeros.netparts import (
    any_wire, chosen_wires, is_less_wire, mark_wires, shift_wires, sum_wires, times_wires, zero_wires,
)
from guessedzeros.nets import Net
from guessedzeros.wiredparts import (
    give_told, less_wires, masked_wires, number_wires, read_wires, rounded_wires, unit_net,
)


def wired_add(form):
    net, a, b, way = unit_net(form)
    less = is_less_wire(net, a[1:], b[1:])
    greater = read_wires(net, form, chosen_wires(net, less, b, a))
    lesser = read_wires(net, form, chosen_wires(net, less, a, b))
    unlike = net.unlike(greater["sign"], lesser["sign"])
    total, more = heads_added(net, greater, lesser, unlike)
    sign = sum_sign(net, greater["sign"], unlike, any_wire(net, total), way)
    rounding = rounded_wires(net, form, sign, total, greater["scale"], more, way)
    is_none = net.either(greater["none"], lesser["none"])
    bad = net.both(unlike, net.both(greater["endless"], lesser["endless"]))
    give_told(net, form, sign, rounding, bad, is_none, greater["endless"])
    return net


def heads_added(net, greater, lesser, unlike):
    """The total of the heads, of the lesser one what is left by its shift, with two bits more; and its more."""
    by = less_wires(net, greater["scale"], lesser["scale"])[0]
    two = number_wires(net, 0, 2)
    number, more = shift_wires(net, lesser["head"] + two, by)
    # Less number, less one where there's more: the bits turned, and one where there's none.
    turned = [net.unlike(unlike, wire) for wire in number]
    one = net.both(unlike, net.other(more))
    carry, *total = sum_wires(net, greater["head"] + two, turned, one)
    return [net.both(carry, net.other(unlike)), *total], more


def sum_sign(net, sign, unlike, is_some, way):
    # Of one sign only noughts come to 0, and keep it.
    is_nought = net.both(unlike, net.other(is_some))
    is_down = net.both(way[0], way[1])
    return chosen_wires(net, is_nought, [is_down], [sign])[0]


def wired_times(form):
    net, a, b, way = unit_net(form)
    one = read_wires(net, form, a)
    other = read_wires(net, form, b)
    sign = net.unlike(one["sign"], other["sign"])
    total, above, more = heads_multiplied(net, form, one, other)
    rounding = rounded_wires(net, form, sign, total, above, more, way)
    is_none = net.either(one["none"], other["none"])
    is_endless = net.either(one["endless"], other["endless"])
    # An endless one isn't nought, so it's the other one that is.
    bad = net.both(is_endless, net.either(one["nought"], other["nought"]))
    give_told(net, form, sign, rounding, bad, is_none, is_endless)
    return net


def heads_multiplied(net, form, one, other):
    """The product of the heads, how far it's above least_plain, and its more; if beneath, it's shifted there."""
    scale = sum_wires(net, one["scale"], other["scale"], net.fixed(0))
    bias = number_wires(net, form.bias(), len(scale))
    above, holds = less_wires(net, scale, bias)
    beneath = masked_wires(net, net.other(holds), less_wires(net, bias, scale)[0])
    total, more = shift_wires(net, times_wires(net, one["head"], other["head"]), beneath)
    return total, masked_wires(net, holds, above), more


def wired_guess(many):
    net = Net(2 * many)
    wires = list(range(2 * many))
    ones = wires[:many]
    others = wires[many:]
    less = is_less_wire(net, ones, others)
    greater = chosen_wires(net, less, others, ones)
    lesser = chosen_wires(net, less, ones, others)
    net.give("guess", zero_wires(net, mark_wires(net, ones, others)))
    net.give("zeros", zero_wires(net, less_wires(net, greater, lesser)[0]))
    return net
