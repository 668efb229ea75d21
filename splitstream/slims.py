"""Slims: nets with fewer pipes or places that are as hard as before between the places left."""

from splitstream.errors import NoPlace
from splitstream.fractions import over, plus, times, total
from splitstream.nets import Net, counts_one_of


def ease_between(pipes, one, other):
    ways = ((one, other), (other, one))
    return total([over((1, 1), hardness) for start, end, hardness in pipes if (start, end) in ways])


def ease_at(pipes, at):
    return total([over((1, 1), hardness) for start, end, hardness in pipes if at in (start, end)])


def ease_by_way_of(pipes, one, at, other):
    product = times(ease_between(pipes, one, at), ease_between(pipes, at, other))
    # A place without a pipe has no eases to divide by.
    if product == (0, 1):
        return product
    return over(product, ease_at(pipes, at))


def pairs(many):
    result = []
    for one in range(many):
        for other in range(one + 1, many):
            result.append((one, other))
    return result


# The bounds of [2] are asked of the net that comes, never of a step on the way to it: so eases are worked with up
# to here, and the net is made last.
def net_of_eases(places, eases):
    return Net(places, [(one, other, over((1, 1), ease)) for one, other, ease in eases if ease != (0, 1)])


def slim(net):
    pipes = net.pipes()
    return net_of_eases(net.size, [(one, other, ease_between(pipes, one, other)) for one, other in pairs(net.size)])


def ease_without(pipes, one, at, other):
    return plus(ease_between(pipes, one, other), ease_by_way_of(pipes, one, at, other))


def taken_out(net, at):
    if not counts_one_of(at, net.size) or net.size == 1:
        raise NoPlace("this is no place of the net that can be taken out")
    pipes = net.pipes()
    left = [place for place in range(net.size) if place != at]
    return net_of_eases(
        len(left),
        [(one, other, ease_without(pipes, left[one], at, left[other])) for one, other in pairs(len(left))])
