"""Streams: how one splits on its way from a place to another, and what follows from it."""

from splitstream.errors import BadFlows, NoPlace
from splitstream.fractions import is_fraction, minus, over, times, total
from splitstream.nets import counts_one_of
from splitstream.sheets import scale_of, sheet_of, solved


def are_fractions(value, many):
    return isinstance(value, list) and len(value) == many and all([is_fraction(entry) for entry in value])


def are_places(net, places):
    return all([counts_one_of(place, net.size) for place in places])


def check_places(net, places):
    if not are_places(net, places):
        raise NoPlace("this is no place of the net")


def check_flows(net, flows):
    if not are_fractions(flows, len(net.pipes())):
        raise BadFlows("flows are a list of a fraction for each pipe")


def sum_at(pipes, flows, place):
    away = total([flow for pipe, flow in zip(pipes, flows) if pipe[0] == place])
    coming = total([flow for pipe, flow in zip(pipes, flows) if pipe[1] == place])
    return minus(away, coming)


def sums_of(net, flows):
    check_flows(net, flows)
    return [sum_at(net.pipes(), flows, place) for place in range(net.size)]


def heat(net, flows):
    check_flows(net, flows)
    return total([times(times(flow, flow), pipe[2]) for pipe, flow in zip(net.pipes(), flows)])


def asked_sum(place, one, other):
    if one == other or place not in (one, other):
        return (0, 1)
    return (1, 1) if place == one else (-1, 1)


def asked_sums(net, one, other):
    return [asked_sum(place, one, other) for place in range(net.size)]


def falls(net, heights):
    return [minus(heights[start], heights[end]) for start, end, hardness in net.pipes()]


# Pipes settle heights against one another alone, so some have to be 0 by the words of [4].
def grounded(net, other):
    part = net.part(other)
    return [place for place in range(net.size) if place == other or place not in part]


class Answer:
    # By itself an answer tells nothing of a net; the kinds below do.
    def shows(self, net, one, other):
        return False


class Stream(Answer):
    def __init__(self, flows, heights):
        self.flows = list(flows)
        self.heights = list(heights)

    def fits(self, net):
        return are_fractions(self.flows, len(net.pipes())) and are_fractions(self.heights, net.size)

    # An answer may come from the asker, so it is held to the words of [4], not to how a stream is worked out.
    def shows(self, net, one, other):
        if not self.fits(net) or not are_places(net, [one, other]):
            return False
        if sums_of(net, self.flows) != asked_sums(net, one, other):
            return False
        if falls(net, self.heights) != [times(flow, pipe[2]) for pipe, flow in zip(net.pipes(), self.flows)]:
            return False
        return all([self.heights[place] == (0, 1) for place in grounded(net, other)])


class Apart(Answer):
    def __init__(self, places):
        self.places = list(places)

    def shows(self, net, one, other):
        if one not in self.places or other in self.places:
            return False
        return all([(start in self.places) == (end in self.places) for start, end, hardness in net.pipes()])


# Asked only of two places that hang together.
def heights_between(net, one, other):
    pipes = net.pipes()
    scale = scale_of(pipes)
    free = [place for place in net.part(other) if place != other]
    # The eases in the sheet are scaled, so what one brings in is scaled too.
    amounts = [asked_sum(place, one, other)[0] * scale for place in free]
    heights = [(0, 1)] * net.size
    for place, height in zip(free, solved(sheet_of(pipes, scale, free), amounts)):
        heights[place] = height
    return heights


def stream(net, one, other):
    check_places(net, [one, other])
    part = net.part(one)
    if other not in part:
        return Apart(part)
    heights = heights_between(net, one, other)
    flows = [over(fall, pipe[2]) for pipe, fall in zip(net.pipes(), falls(net, heights))]
    return Stream(flows, heights)


def hardness_of(net, one, other):
    check_places(net, [one, other])
    if other not in net.part(one):
        return None
    return heights_between(net, one, other)[one]


# At each further place a chance is the mean of its neighbours', each counted by the ease of the pipe there, and so
# is a height of the stream; so the chances are the heights, brought to 1 at the one place.
def chance(net, start, one, other):
    check_places(net, [start, one, other])
    if one == other:
        raise NoPlace("a walk can't come to a place ahead of that same place")
    part = net.part(start)
    if one in part and other in part:
        heights = heights_between(net, one, other)
        return over(heights[start], heights[one])
    if one not in part and other not in part:
        return None
    return (1, 1) if one in part else (0, 1)
