"""Nets and values that several tests ask about; the same in every run."""

from fractions import Fraction
from itertools import combinations

from splitstream.fractions import made
from splitstream.nets import Net

ONE = (1, 1)
NOUGHT = (0, 1)
MOST = 1000000000
OTHER_KINDS = [True, False, None, "0", "", 1.0, 0.0, (0,), [0], {}, Fraction(1, 1)]
AT_THE_BOUNDS = [ONE, (1, MOST), (MOST, 1), (MOST, MOST - 1), (MOST - 1, MOST), (1, MOST - 1), (MOST - 1, 1)]


def value(fraction):
    return Fraction(fraction[0], fraction[1])


def pair(number):
    return (Fraction(number).numerator, Fraction(number).denominator)


def every_two_of_eight():
    return [(one, other, (one + 1, 1)) for one, other in combinations(range(8), 2)]


def net_of(places, *pairs):
    return Net(places, [(one, other, ONE) for one, other in pairs])


class Numbers:
    """Numbers without an order to the eye, from a start of their own."""

    def __init__(self, start):
        self.state = start

    def below(self, many):
        self.state = (self.state * 6364136223846793005 + 1442695040888963407) % 2 ** 64
        return (self.state >> 33) % many


def mixed_net(start, places, many, most=6):
    numbers = Numbers(start)
    pipes = []
    while len(pipes) < many:
        one, other = numbers.below(places), numbers.below(places)
        if one != other:
            pipes.append((one, other, made(numbers.below(most) + 1, numbers.below(most) + 1)))
    return Net(places, pipes)


def chain(places, hardnesses):
    pipes = [(at, at + 1, hardnesses[at % len(hardnesses)]) for at in range(places - 1)]
    return Net(places, [
        (one, other, hardness) if one % 2 == 0 else (other, one, hardness) for one, other, hardness in pipes])


def ring(places, hardnesses):
    return Net(places, chain(places, hardnesses).pipes() + [(places - 1, 0, hardnesses[-1])])


def small_nets():
    nets = [
        Net(1, []), Net(2, []), Net(8, []), net_of(2, (0, 1)), net_of(2, (1, 0)), net_of(2, (0, 1), (1, 0), (0, 1)),
        net_of(3, (0, 1)), net_of(3, (0, 1), (1, 2), (2, 0)), net_of(4, (3, 0), (2, 1)),
        Net(4, [(0, 1, (1, 2)), (1, 2, (3, 1)), (2, 3, (5, 2)), (3, 0, ONE), (0, 2, (2, 7)), (2, 0, (1, 3))]),
        Net(5, [(4, 2, (2, 3)), (2, 0, ONE), (0, 4, (7, 1)), (1, 3, (1, 5)), (3, 1, (5, 1))]),
        net_of(6, (0, 1), (1, 2), (2, 0), (2, 3), (3, 4), (4, 5), (5, 3)),
    ]
    return nets + [mixed_net(start, 2 + start % 5, 1 + start % 8) for start in range(12)]


def large_nets():
    return [
        chain(8, [ONE, (2, 3), (7, 2)]), ring(8, [ONE, (2, 3), (7, 2)]), ring(3, [(1, 2)]),
        Net(8, every_two_of_eight()), Net(2, [(0, 1, (7, 3)), (1, 0, (2, 5))] * 14),
        chain(8, AT_THE_BOUNDS), ring(8, AT_THE_BOUNDS),
        mixed_net(101, 8, 28), mixed_net(102, 8, 9), mixed_net(103, 8, 7), mixed_net(104, 7, 28, MOST),
        mixed_net(105, 8, 28, MOST),
        Net(8, [(one, other, AT_THE_BOUNDS[(one + other) % 7]) for one, other in combinations(range(8), 2)]),
    ]


def all_nets():
    return small_nets() + large_nets()
