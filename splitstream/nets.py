"""Nets: places, counted from 0, and pipes between them in their order."""

from splitstream.errors import BadNet, NoPipe, NoPlace
from splitstream.fractions import is_fraction, is_whole

MOST_PLACES = 8
MOST_PIPES = 28
MOST_IN_HARDNESS = 1000000000


def counts_one_of(value, many):
    return is_whole(value) and 0 <= value < many


def is_hardness(value):
    return is_fraction(value) and min(value) >= 1 and max(value) <= MOST_IN_HARDNESS


def is_pipe(value, places):
    if not isinstance(value, tuple) or len(value) != 3:
        return False
    if not counts_one_of(value[0], places) or not counts_one_of(value[1], places):
        return False
    return value[0] != value[1] and is_hardness(value[2])


def is_net(places, pipes):
    if not is_whole(places) or not 1 <= places <= MOST_PLACES:
        return False
    if not isinstance(pipes, list) or len(pipes) > MOST_PIPES:
        return False
    return all([is_pipe(pipe, places) for pipe in pipes])


def neighbours(pipes, at):
    behind = [other for one, other, hardness in pipes if one == at]
    ahead = [one for one, other, hardness in pipes if other == at]
    return behind + ahead


class Net:
    def __init__(self, places, pipes):
        if not is_net(places, pipes):
            raise BadNet("these places and pipes make no net")
        self.size = places
        self.laid = [(one, other, tuple(hardness)) for one, other, hardness in pipes]

    def pipes(self):
        return list(self.laid)

    def part(self, at):
        if not counts_one_of(at, self.size):
            raise NoPlace("this is no place of the net")
        reached = {at: True}
        waiting = [at]
        while len(waiting) > 0:
            place = waiting.pop()
            for neighbour in neighbours(self.laid, place):
                if neighbour not in reached:
                    reached[neighbour] = True
                    waiting.append(neighbour)
        return sorted(reached)

    # Each part is found from every place of it; its least place stands for it once.
    def parts(self):
        found = [self.part(place) for place in range(self.size)]
        return [part for place, part in enumerate(found) if part[0] == place]


def with_pipe(net, one, other, hardness):
    return Net(net.size, net.pipes() + [(one, other, hardness)])


def without_pipe(net, at):
    pipes = net.pipes()
    if not counts_one_of(at, len(pipes)):
        raise NoPipe("this is no pipe of the net")
    return Net(net.size, pipes[:at] + pipes[at + 1:])
