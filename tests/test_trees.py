import unittest
from fractions import Fraction
from itertools import combinations
from math import prod

from samples import MOST, NOUGHT, ONE, OTHER_KINDS, all_nets, chain, every_two_of_eight, mixed_net, net_of, pair, \
    ring, small_nets, value
from splitstream.errors import NoPipe
from splitstream.fractions import is_fraction, total
from splitstream.nets import Net
from splitstream.trees import bridges, share, trees, weight

SMALL = small_nets() + [
    Net(3, [(0, 1, (1, MOST)), (2, 1, (MOST, 1)), (0, 2, (MOST, MOST - 1)), (1, 2, (MOST - 1, MOST))]),
    net_of(5, (0, 1), (1, 0), (0, 1), (2, 3), (3, 2)), ring(8, [ONE, (2, 3)]),
    mixed_net(31, 6, 11), mixed_net(32, 5, 12), mixed_net(33, 8, 10),
]


def choice_of(net, numbers):
    return [net.pipes()[at] for at in numbers]


# Every choice of pipes is looked at, of however many; none is left out by how many a full one should have.
def is_full(net, numbers):
    if Net(net.size, choice_of(net, numbers)).parts() != net.parts():
        return False
    return all(
        Net(net.size, choice_of(net, [other for other in numbers if other != at])).parts() != net.parts()
        for at in numbers)


def full_choices(net):
    everything = range(len(net.pipes()))
    return [numbers for many in range(len(net.pipes()) + 1) for numbers in combinations(everything, many)
            if many <= net.size and is_full(net, numbers)]


def weight_of(net, choices):
    return sum((prod((1 / value(pipe[2]) for pipe in choice_of(net, numbers)), start=Fraction(1))
                for numbers in choices), start=Fraction(0))


class AgainstEachChoice(unittest.TestCase):
    def test_weight_trees_shares_and_bridges(self):
        for net in SMALL:
            choices = full_choices(net)
            all_together = weight_of(net, choices)
            with self.subTest(size=net.size, pipes=net.pipes()):
                self.assertEqual(weight(net), pair(all_together))
                self.assertEqual(trees(net), len(choices))
                shares = [
                    weight_of(net, [numbers for numbers in choices if at in numbers]) / all_together
                    for at in range(len(net.pipes()))]
                self.assertEqual([share(net, at) for at in range(len(shares))], [pair(number) for number in shares])
                self.assertEqual(bridges(net), [at for at, number in enumerate(shares) if number == 1])


class Weight(unittest.TestCase):
    def test_the_empty_choice(self):
        for places in range(1, 9):
            self.assertEqual(weight(Net(places, [])), ONE)
            self.assertEqual(trees(Net(places, [])), 1)
            self.assertIs(type(trees(Net(places, []))), int)

    def test_one_by_the_hardness(self):
        for hardness in (ONE, (3, 2), (1, MOST), (MOST, 1), (MOST, MOST - 1)):
            self.assertEqual(weight(net=Net(2, [(1, 0, hardness)])), (hardness[1], hardness[0]))

    def test_pipes_side_by_side_are_different_ones(self):
        net = Net(2, [(0, 1, ONE), (1, 0, (1, 2)), (0, 1, (2, 1))])
        self.assertEqual(weight(net), (7, 2))
        self.assertEqual(trees(net), 3)
        self.assertEqual(trees(net=net_of(3, *[(0, 1)] * 14, *[(1, 2)] * 14)), 196)

    def test_chains_have_one_and_rings_one_for_each_pipe(self):
        self.assertEqual(trees(chain(8, [(2, 3)])), 1)
        self.assertEqual(weight(chain(8, [(2, 1)])), (1, 128))
        self.assertEqual(weight(chain(8, [(1, MOST)])), (MOST ** 7, 1))
        self.assertEqual(weight(chain(8, [(MOST, 1)])), (1, MOST ** 7))
        self.assertEqual(trees(ring(8, [(2, 3)])), 8)
        self.assertEqual(weight(ring(8, [(2, 1)])), (1, 16))

    def test_every_two_of_eight(self):
        self.assertEqual(trees(Net(8, every_two_of_eight())), 8 ** 6)
        even = Net(8, [(one, other, (2, 1)) for one, other, hardness in every_two_of_eight()])
        self.assertEqual(weight(even), (2048, 1))

    def test_several_parts(self):
        net = net_of(8, (0, 2), (2, 4), (4, 0), (1, 3), (3, 1), (5, 6))
        self.assertEqual(trees(net), 6)
        self.assertEqual(weight(Net(5, [(0, 1, (2, 1)), (4, 2, (3, 1)), (2, 4, ONE)])), (2, 3))

    def test_large_nets_give_fractions(self):
        for net in all_nets():
            self.assertTrue(is_fraction(weight(net)))
            self.assertIs(type(trees(net)), int)


class Share(unittest.TestCase):
    def test_side_by_side(self):
        net = Net(2, [(0, 1, ONE), (1, 0, (1, 2)), (0, 1, (2, 1))])
        self.assertEqual([share(net, at) for at in range(3)], [(2, 7), (4, 7), (1, 7)])

    def test_names_of_the_arguments(self):
        self.assertEqual(share(net=net_of(3, (0, 1), (1, 2), (2, 0)), at=1), (2, 3))
        self.assertEqual(bridges(net=net_of(2, (0, 1))), [0])

    def test_all_shares_together_are_the_places_less_the_parts(self):
        for net in all_nets():
            shares = [share(net, at) for at in range(len(net.pipes()))]
            self.assertEqual(total(shares), (net.size - len(net.parts()), 1))

    def test_direction_does_not_matter(self):
        for net in small_nets():
            turned = Net(net.size, [(other, one, hardness) for one, other, hardness in net.pipes()])
            for at in range(len(net.pipes())):
                self.assertEqual(share(net, at), share(turned, at))

    def test_pipes_that_are_not_there(self):
        net = net_of(3, (0, 1), (1, 2))
        for at in OTHER_KINDS + [-1, -2, 2, 3, 28, 7 ** 900]:
            with self.subTest(at=at), self.assertRaises(NoPipe):
                share(net, at)
        for at in (0, -1, 1):
            with self.assertRaises(NoPipe):
                share(Net(2, []), at)

    def test_the_last_of_28_pipes_and_one_too_many(self):
        net = Net(8, every_two_of_eight())
        self.assertTrue(is_fraction(share(net, 27)))
        with self.assertRaises(NoPipe):
            share(net, 28)


class Bridges(unittest.TestCase):
    def test_none(self):
        self.assertEqual(bridges(Net(3, [])), [])
        self.assertEqual(bridges(ring(8, [ONE])), [])
        self.assertEqual(bridges(net_of(2, (0, 1), (1, 0))), [])
        self.assertEqual(bridges(Net(8, every_two_of_eight())), [])

    def test_every_pipe_of_a_chain(self):
        self.assertEqual(bridges(chain(8, [(1, MOST), (MOST, 1)])), [0, 1, 2, 3, 4, 5, 6])

    def test_rising_by_their_numbers(self):
        net = net_of(8, (7, 6), (0, 1), (1, 2), (5, 6), (2, 0), (2, 3), (4, 5), (5, 4))
        self.assertEqual(bridges(net), [0, 3, 5])

    def test_a_share_close_to_1_is_no_bridge(self):
        net = Net(2, [(0, 1, (1, MOST)), (0, 1, (MOST, 1))])
        self.assertEqual(share(net, 0), (MOST ** 2, MOST ** 2 + 1))
        self.assertEqual(bridges(net), [])

    def test_they_are_the_pipes_whose_share_is_1(self):
        for net in all_nets():
            self.assertEqual(bridges(net), [at for at in range(len(net.pipes())) if share(net, at) == ONE])

    def test_the_list_is_the_askers_own_and_the_net_stays(self):
        net = net_of(3, (0, 1), (1, 2))
        bridges(net).append(7)
        weight(net), trees(net), share(net, 0)
        self.assertEqual(bridges(net), [0, 1])
        self.assertEqual(net.pipes(), [(0, 1, ONE), (1, 2, ONE)])
        self.assertNotEqual(share(net, 0), NOUGHT)


if __name__ == "__main__":
    unittest.main()
