import unittest

from samples import MOST, NOUGHT, ONE, OTHER_KINDS, all_nets, chain, net_of, ring, small_nets, value
from splitstream.errors import NoPlace
from splitstream.fractions import is_fraction
from splitstream.nets import Net
from splitstream.streams import chance


def two_of(net):
    return [(one, other) for one in range(net.size) for other in range(net.size) if one != other]


def mean_around(net, at, one, other):
    eases = reached = 0
    for start, end, hardness in net.pipes():
        if at in (start, end):
            beside = end if start == at else start
            eases += 1 / value(hardness)
            reached += value(chance(net, beside, one, other)) / value(hardness)
    return reached / eases


class Told(unittest.TestCase):
    def test_from_either_place(self):
        for net in all_nets():
            for one, other in two_of(net):
                self.assertEqual(chance(net, one, one, other), ONE)
                self.assertEqual(chance(net, other, one, other), NOUGHT)

    def test_along_a_chain(self):
        net = chain(8, [ONE])
        for start in range(8):
            told = value(chance(net=net, start=start, one=7, other=0))
            self.assertEqual(told * 7, start)

    def test_easier_pipes_are_taken_more_often(self):
        net = Net(3, [(1, 0, (1, 3)), (2, 1, ONE)])
        self.assertEqual(chance(net, 1, 0, 2), (3, 4))
        self.assertEqual(chance(net, 1, 2, 0), (1, 4))

    def test_pipes_side_by_side(self):
        self.assertEqual(chance(net_of(3, (1, 0), (0, 1), (2, 1)), 1, 0, 2), (2, 3))

    def test_hardnesses_at_the_bounds(self):
        net = Net(3, [(1, 0, (1, MOST)), (2, 1, (MOST, 1))])
        self.assertEqual(chance(net, 1, 0, 2), (MOST ** 2, MOST ** 2 + 1))

    def test_around_a_ring(self):
        net = ring(8, [ONE])
        self.assertEqual([chance(net, start, 2, 6) for start in range(8)],
                         [(1, 2), (3, 4), ONE, (3, 4), (1, 2), (1, 4), NOUGHT, (1, 4)])

    def test_a_dead_end_has_the_chance_of_where_it_hangs(self):
        net = net_of(5, (0, 1), (1, 2), (1, 3), (2, 4))
        self.assertEqual(chance(net, 3, 0, 2), (1, 2))
        self.assertEqual(chance(net, 4, 0, 2), NOUGHT)

    def test_at_each_further_place_the_mean_over_its_pipes(self):
        for net in small_nets():
            for one, other in two_of(net):
                for start in range(net.size):
                    told = chance(net, start, one, other)
                    part = net.part(start)
                    if start not in (one, other) and one in part and other in part:
                        self.assertTrue(is_fraction(told))
                        self.assertEqual(value(told), mean_around(net, start, one, other))

    def test_either_one_is_reached_first(self):
        for net in small_nets():
            for one, other in two_of(net):
                for start in range(net.size):
                    told, back = chance(net, start, one, other), chance(net, start, other, one)
                    if told is None:
                        self.assertIsNone(back)
                    else:
                        self.assertEqual(value(told) + value(back), 1)

    def test_where_just_one_hangs_together_with_the_start(self):
        net = net_of(6, (0, 1), (1, 2), (3, 4))
        for start in (0, 1, 2):
            self.assertEqual(chance(net, start, 2, 3), ONE)
            self.assertEqual(chance(net, start, 4, 0), NOUGHT)
            self.assertEqual(chance(net, start, 5, 1), NOUGHT)
        self.assertEqual(chance(net, 3, 4, 5), ONE)
        self.assertEqual(chance(net, 5, 5, 0), ONE)
        self.assertEqual(chance(net, 5, 0, 5), NOUGHT)

    def test_where_neither_hangs_together_with_the_start(self):
        net = net_of(6, (0, 1), (1, 2), (3, 4))
        for start, one, other in ((5, 0, 2), (5, 0, 3), (0, 3, 4), (0, 4, 5), (3, 0, 1), (4, 2, 5)):
            self.assertIsNone(chance(net, start, one, other))
        self.assertIsNone(chance(Net(3, []), 0, 1, 2))

    def test_the_net_stays_as_it_was(self):
        for net in small_nets():
            pipes = net.pipes()
            for one, other in two_of(net)[:2]:
                chance(net, 0, one, other)
            self.assertEqual(net.pipes(), pipes)


class Refused(unittest.TestCase):
    def assert_refused(self, net, start, one, other):
        with self.subTest(start=start, one=one, other=other), self.assertRaises(NoPlace):
            chance(net, start, one, other)

    def test_two_alike_from_each_start(self):
        for net in small_nets():
            for start in range(net.size):
                for place in range(net.size):
                    self.assert_refused(net, start, place, place)

    def test_places_that_are_not_there(self):
        for net in (net_of(3, (0, 1), (1, 2)), Net(3, [])):
            for place in OTHER_KINDS + [-1, -3, 3, 8, 7 ** 900]:
                self.assert_refused(net, place, 0, 1)
                self.assert_refused(net, 0, place, 1)
                self.assert_refused(net, 0, 0, place)
                self.assert_refused(net, 2, 1, place)
                self.assert_refused(net, 0, place, place)
                self.assert_refused(net, place, 0, 0)


if __name__ == "__main__":
    unittest.main()
