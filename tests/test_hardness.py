import unittest

from samples import MOST, NOUGHT, ONE, OTHER_KINDS, all_nets, chain, every_two_of_eight, net_of, pair, ring, \
    small_nets, value
from splitstream.errors import NoPlace
from splitstream.fractions import below, is_fraction, plus, times
from splitstream.nets import Net, with_pipe
from splitstream.streams import hardness_of, stream


class Told(unittest.TestCase):
    def test_one_pipe(self):
        for hardness in (ONE, (3, 2), (1, MOST), (MOST, 1), (MOST, MOST - 1)):
            for pipe in ((0, 1, hardness), (1, 0, hardness)):
                self.assertEqual(hardness_of(Net(2, [pipe]), 0, 1), hardness)
                self.assertEqual(hardness_of(net=Net(2, [pipe]), one=1, other=0), hardness)

    def test_behind_one_another_they_add(self):
        self.assertEqual(hardness_of(Net(3, [(0, 1, (1, 2)), (2, 1, (1, 3))]), 0, 2), (5, 6))
        self.assertEqual(hardness_of(chain(8, [ONE, (2, 1)]), 7, 0), (10, 1))
        self.assertEqual(hardness_of(chain(8, [(MOST, 1)]), 0, 7), (7 * MOST, 1))

    def test_side_by_side_their_eases_add(self):
        self.assertEqual(hardness_of(Net(2, [(0, 1, (1, 2)), (1, 0, (1, 3))]), 0, 1), (1, 5))
        self.assertEqual(hardness_of(Net(2, [(0, 1, (1, MOST))] * 28), 0, 1), (1, 28 * MOST))

    def test_rings_and_full_nets(self):
        for away in range(8):
            self.assertEqual(hardness_of(ring(8, [ONE]), 0, away), pair(value((away * (8 - away), 8))))
        full = Net(8, [(one, other, ONE) for one, other, hardness in every_two_of_eight()])
        self.assertEqual(hardness_of(full, 3, 5), (1, 4))

    def test_a_bridge_between_two_pairs(self):
        net = net_of(4, (0, 1), (0, 2), (3, 1), (3, 2), (1, 2))
        self.assertEqual(hardness_of(net, 0, 3), ONE)
        self.assertEqual(hardness_of(net, 1, 2), (1, 2))
        self.assertEqual(hardness_of(net, 0, 1), (5, 8))

    def test_the_streams_height_at_the_first_place_and_the_same_both_ways(self):
        for net in all_nets():
            for one in range(net.size):
                for other in range(net.size):
                    told = hardness_of(net, one, other)
                    self.assertEqual(told, hardness_of(net, other, one))
                    if other in net.part(one):
                        self.assertEqual(told, stream(net, one, other).heights[one])
                        self.assertTrue(is_fraction(told))
                    else:
                        self.assertIsNone(told)

    def test_a_place_to_itself(self):
        for net in all_nets():
            for place in range(net.size):
                self.assertEqual(hardness_of(net, place, place), NOUGHT)

    def test_places_apart(self):
        self.assertIsNone(hardness_of(Net(2, []), 0, 1))
        self.assertIsNone(hardness_of(net_of(4, (0, 1), (2, 3)), 3, 1))

    def test_a_pipe_more_between_the_two(self):
        for net in small_nets():
            before = hardness_of(net, 0, net.size - 1)
            if before is not None and before != NOUGHT:
                for hardness in (ONE, (1, MOST), (7, 3)):
                    now = hardness_of(with_pipe(net, net.size - 1, 0, hardness), 0, net.size - 1)
                    self.assertEqual(1 / value(now), 1 / value(before) + 1 / value(hardness))

    def test_a_harder_pipe_never_makes_it_less_hard(self):
        net = Net(4, [(0, 1, ONE), (1, 2, (2, 1)), (2, 0, (1, 3)), (2, 3, ONE), (1, 3, (5, 2))])
        for at, (start, end, hardness) in enumerate(net.pipes()):
            pipes = net.pipes()
            pipes[at] = (start, end, plus(hardness, ONE))
            for one in range(4):
                for other in range(4):
                    self.assertFalse(below(hardness_of(Net(4, pipes), one, other), hardness_of(net, one, other)))
            self.assertTrue(below(hardness_of(net, start, end), hardness_of(Net(4, pipes), start, end)))

    def test_all_pipes_three_times_as_hard(self):
        for net in small_nets():
            harder = Net(net.size, [(one, other, times(hardness, (3, 1))) for one, other, hardness in net.pipes()])
            before = hardness_of(net, 0, net.size - 1)
            if before is not None:
                self.assertEqual(hardness_of(harder, 0, net.size - 1), times(before, (3, 1)))


class Refused(unittest.TestCase):
    def test_places_that_are_not_there(self):
        net = net_of(3, (0, 1), (1, 2))
        for place in OTHER_KINDS + [-1, -3, 3, 8, 7 ** 900]:
            for one, other in ((place, 0), (1, place), (place, place)):
                with self.subTest(one=one, other=other), self.assertRaises(NoPlace):
                    hardness_of(net, one, other)

    def test_also_where_nothing_hangs_together(self):
        for one, other in ((0, 2), (2, 0), (-1, 0), (True, 0), (0, False)):
            with self.assertRaises(NoPlace):
                hardness_of(Net(2, []), one, other)


if __name__ == "__main__":
    unittest.main()
