import unittest
from itertools import permutations, product

from samples import ONE, OTHER_KINDS, net_of
from splitstream.errors import NoPlace
from splitstream.nets import Net


def turned(pairs, turns):
    return [(other, one) if turn else (one, other) for (one, other), turn in zip(pairs, turns)]


class PartsCase(unittest.TestCase):
    def assert_parts(self, net, parts):
        self.assertEqual(net.parts(), parts)
        for part in parts:
            for place in part:
                self.assertEqual(net.part(place), part)


class Parts(PartsCase):
    def test_single_places(self):
        for places in range(1, 9):
            self.assert_parts(net_of(places), [[place] for place in range(places)])

    def test_nets_that_hang_together(self):
        self.assert_parts(net_of(2, (0, 1)), [[0, 1]])
        self.assert_parts(net_of(2, (1, 0), (0, 1), (1, 0)), [[0, 1]])
        self.assert_parts(net_of(3, (0, 1), (1, 2), (2, 0)), [[0, 1, 2]])
        self.assert_parts(net_of(8, *[(7, place) for place in range(7)]), [list(range(8))])
        self.assert_parts(net_of(8, *[(place, 3) for place in range(8) if place != 3]), [list(range(8))])

    def test_nets_that_fall_apart(self):
        self.assert_parts(net_of(4, (3, 0)), [[0, 3], [1], [2]])
        self.assert_parts(net_of(4, (3, 1), (2, 0)), [[0, 2], [1, 3]])
        self.assert_parts(net_of(6, (5, 0), (4, 1), (3, 2)), [[0, 5], [1, 4], [2, 3]])
        self.assert_parts(net_of(8, (7, 1), (1, 5), (6, 2), (4, 6)), [[0], [1, 5, 7], [2, 4, 6], [3]])

    def test_chains_in_any_order_and_direction(self):
        links = [(3, 0), (0, 4), (4, 1), (1, 2)]
        for order in permutations(links):
            for turns in product((False, True), repeat=4):
                self.assert_parts(net_of(5, *turned(order, turns)), [[0, 1, 2, 3, 4]])

    def test_two_chains_in_any_order_and_direction(self):
        links = [(5, 3), (3, 1), (4, 0), (0, 2)]
        for order in permutations(links):
            for turns in product((False, True), repeat=4):
                self.assert_parts(net_of(6, *turned(order, turns)), [[0, 2, 4], [1, 3, 5]])

    def test_a_chain_of_8(self):
        links = [(place, place + 1) for place in range(7)]
        for order in (links, links[::-1], links[::2] + links[1::2]):
            for turns in product((False, True), repeat=7):
                self.assert_parts(net_of(8, *turned(order, turns)), [list(range(8))])

    def test_hardness_does_not_matter(self):
        net = Net(3, [(2, 0, (1, 1000000000)), (2, 0, (1000000000, 1))])
        self.assert_parts(net, [[0, 2], [1]])


class Refused(unittest.TestCase):
    def test_places_that_are_not_there(self):
        net = net_of(3, (0, 1), (1, 2))
        for at in OTHER_KINDS + [-1, -3, 3, 8, 7 ** 900]:
            with self.subTest(at=at), self.assertRaises(NoPlace):
                net.part(at)

    def test_a_place_of_a_larger_net(self):
        for places in range(1, 9):
            self.assertEqual(net_of(places).part(places - 1), [places - 1])
            with self.assertRaises(NoPlace):
                net_of(places).part(places)


class OwnLists(unittest.TestCase):
    def test_a_part_given_back_may_be_changed(self):
        net = net_of(3, (0, 2))
        net.part(at=0).append(1)
        net.part(0).clear()
        self.assertEqual(net.part(0), [0, 2])
        self.assertEqual(net.parts(), [[0, 2], [1]])

    def test_parts_given_back_may_be_changed(self):
        net = net_of(3, (0, 2))
        given = net.parts()
        given[0].append(1)
        given.pop()
        self.assertEqual(net.parts(), [[0, 2], [1]])
        self.assertEqual(net.part(2), [0, 2])

    def test_asking_leaves_the_net_as_it_was(self):
        net = net_of(3, (0, 2), (2, 1))
        net.part(1)
        net.parts()
        self.assertEqual(net.size, 3)
        self.assertEqual(net.pipes(), [(0, 2, ONE), (2, 1, ONE)])


if __name__ == "__main__":
    unittest.main()
