import unittest

from samples import MOST, NOUGHT, ONE, OTHER_KINDS, all_nets, chain, every_two_of_eight, net_of, ring, value
from splitstream.errors import NoPlace
from splitstream.fractions import is_fraction
from splitstream.nets import Net
from splitstream.streams import Answer, Apart, Stream, stream


def part_of(net, at):
    return next(part for part in net.parts() if at in part)


class Classes(unittest.TestCase):
    def test_both_answers_stand_straight_under_answer(self):
        self.assertEqual(Stream.__bases__, (Answer,))
        self.assertEqual(Apart.__bases__, (Answer,))
        self.assertTrue(callable(Answer.shows))

    def test_names_of_the_arguments(self):
        net = net_of(2, (0, 1))
        made = Stream(flows=[ONE], heights=[ONE, NOUGHT])
        self.assertEqual((made.flows, made.heights), ([ONE], [ONE, NOUGHT]))
        self.assertIs(made.shows(net=net, one=0, other=1), True)
        self.assertEqual(Apart(places=[0]).places, [0])
        self.assertEqual(stream(net=net, one=0, other=1).flows, [ONE])


class StreamCase(unittest.TestCase):
    def assert_fractions(self, values, many):
        self.assertIs(type(values), list)
        self.assertEqual(len(values), many)
        for fraction in values:
            self.assertTrue(is_fraction(fraction), fraction)

    def assert_sums(self, net, flows, one, other):
        sums = [0] * net.size
        for (start, end, hardness), flow in zip(net.pipes(), flows):
            sums[start] += value(flow)
            sums[end] -= value(flow)
        wanted = [0] * net.size
        wanted[one] += 1
        wanted[other] -= 1
        self.assertEqual(sums, wanted)

    def assert_falls(self, net, flows, heights):
        for (start, end, hardness), flow in zip(net.pipes(), flows):
            self.assertEqual(value(heights[start]) - value(heights[end]), value(flow) * value(hardness))

    def assert_stream(self, net, one, other, answer):
        self.assertIsInstance(answer, Stream)
        self.assert_fractions(answer.flows, len(net.pipes()))
        self.assert_fractions(answer.heights, net.size)
        self.assert_sums(net, answer.flows, one, other)
        self.assert_falls(net, answer.flows, answer.heights)
        for place in range(net.size):
            if place == other or place not in part_of(net, other):
                self.assertEqual(answer.heights[place], NOUGHT)


class Told(StreamCase):
    def test_every_two_places_of_every_net(self):
        for net in all_nets():
            for one in range(net.size):
                for other in range(net.size):
                    answer = stream(net, one, other)
                    with self.subTest(pipes=net.pipes(), one=one, other=other):
                        if other in part_of(net, one):
                            self.assert_stream(net, one, other, answer)
                        else:
                            self.assertIsInstance(answer, Apart)
                            self.assertEqual(answer.places, part_of(net, one))

    def test_a_place_to_itself(self):
        for net in all_nets():
            for place in range(net.size):
                answer = stream(net, place, place)
                self.assertIsInstance(answer, Stream)
                self.assertEqual(answer.flows, [NOUGHT] * len(net.pipes()))
                self.assertEqual(answer.heights, [NOUGHT] * net.size)

    def test_the_only_place(self):
        answer = stream(Net(1, []), 0, 0)
        self.assertEqual((answer.flows, answer.heights), ([], [NOUGHT]))

    def test_one_pipe_in_either_direction(self):
        net = Net(2, [(0, 1, (3, 2))])
        forth, back = stream(net, 0, 1), stream(net, 1, 0)
        self.assertEqual((forth.flows, forth.heights), ([ONE], [(3, 2), NOUGHT]))
        self.assertEqual((back.flows, back.heights), ([(-1, 1)], [NOUGHT, (3, 2)]))

    def test_pipes_side_by_side_share_by_their_eases(self):
        answer = stream(Net(2, [(0, 1, ONE), (1, 0, (2, 1)), (0, 1, (1, 3))]), 0, 1)
        self.assertEqual(answer.flows, [(2, 9), (-1, 9), (2, 3)])
        self.assertEqual(answer.heights, [(2, 9), NOUGHT])

    def test_a_ring_splits_two_ways(self):
        answer = stream(net_of(3, (0, 1), (1, 2), (2, 0)), 0, 1)
        self.assertEqual(answer.flows, [(2, 3), (-1, 3), (-1, 3)])
        self.assertEqual(answer.heights, [(2, 3), NOUGHT, (1, 3)])

    def test_a_chain_of_8_takes_all(self):
        answer = stream(chain(8, [ONE, (2, 1)]), 0, 7)
        self.assertEqual(answer.flows, [ONE, (-1, 1), ONE, (-1, 1), ONE, (-1, 1), ONE])
        self.assertEqual(answer.heights, [(10, 1), (9, 1), (7, 1), (6, 1), (4, 1), (3, 1), ONE, NOUGHT])

    def test_a_place_beside_the_way_has_the_height_where_it_hangs(self):
        answer = stream(net_of(5, (0, 1), (1, 2), (1, 3)), 0, 2)
        self.assertEqual(answer.flows, [ONE, ONE, NOUGHT])
        self.assertEqual(answer.heights, [(2, 1), ONE, NOUGHT, ONE, NOUGHT])

    def test_a_bridge_without_a_stream_over_it(self):
        answer = stream(net_of(4, (0, 1), (1, 2), (2, 3), (3, 2)), 3, 2)
        self.assertEqual(answer.flows, [NOUGHT, NOUGHT, (-1, 2), (1, 2)])
        self.assertEqual(answer.heights, [NOUGHT, NOUGHT, NOUGHT, (1, 2)])

    def test_pipes_elsewhere_stay_still(self):
        answer = stream(net_of(5, (0, 1), (2, 3), (3, 4), (4, 2)), 1, 0)
        self.assertEqual(answer.flows, [(-1, 1), NOUGHT, NOUGHT, NOUGHT])
        self.assertEqual(answer.heights, [NOUGHT, ONE, NOUGHT, NOUGHT, NOUGHT])

    def test_hardnesses_at_the_bounds(self):
        answer = stream(Net(2, [(0, 1, (1, MOST)), (0, 1, (MOST, 1))]), 0, 1)
        whole = MOST ** 2 + 1
        self.assertEqual(answer.flows, [(MOST ** 2, whole), (1, whole)])
        self.assertEqual(answer.heights, [(MOST, whole), NOUGHT])

    def test_28_pipes(self):
        answer = stream(Net(8, [(one, other, ONE) for one, other, hardness in every_two_of_eight()]), 0, 7)
        self.assertEqual(answer.flows[:7], [(1, 8)] * 6 + [(1, 4)])
        self.assertEqual(answer.heights, [(1, 4)] + [(1, 8)] * 6 + [NOUGHT])

    def test_a_ring_of_8(self):
        answer = stream(ring(8, [ONE]), 2, 4)
        self.assertEqual(answer.heights[2], (3, 2))
        self.assertEqual(answer.heights, [(1, 1), (5, 4), (3, 2), (3, 4), (0, 1), (1, 4), (1, 2), (3, 4)])


class TooFar(unittest.TestCase):
    def test_the_part_of_the_first_place(self):
        net = net_of(6, (5, 0), (4, 1), (3, 5))
        self.assertEqual(stream(net, 3, 1).places, [0, 3, 5])
        self.assertEqual(stream(net, 1, 3).places, [1, 4])
        self.assertEqual(stream(net, 2, 0).places, [2])
        self.assertIsInstance(stream(net, 2, 0), Apart)

    def test_places_that_are_not_there(self):
        net = net_of(3, (0, 1), (1, 2))
        for place in OTHER_KINDS + [-1, -3, 3, 8, 7 ** 900]:
            for one, other in ((place, 0), (1, place), (place, place)):
                with self.subTest(one=one, other=other), self.assertRaises(NoPlace):
                    stream(net, one, other)

    def test_the_first_number_too_large(self):
        for places in range(1, 9):
            net = Net(places, [])
            self.assertIsInstance(stream(net, places - 1, places - 1), Stream)
            with self.assertRaises(NoPlace):
                stream(net, places, 0)
            with self.assertRaises(NoPlace):
                stream(net, 0, places)


class OwnLists(unittest.TestCase):
    def test_the_net_stays_as_it_was(self):
        for net in all_nets():
            size, pipes = net.size, net.pipes()
            stream(net, 0, net.size - 1)
            self.assertEqual((net.size, net.pipes()), (size, pipes))

    def test_lists_given_back_may_be_changed(self):
        net = net_of(4, (0, 1), (1, 2))
        given = stream(net, 0, 2)
        given.flows.clear()
        given.heights[0] = (77, 1)
        stream(net, 3, 2).places.append(0)
        again = stream(net, 0, 2)
        self.assertEqual((again.flows, again.heights), ([ONE, ONE], [(2, 1), ONE, NOUGHT, NOUGHT]))
        self.assertEqual(stream(net, 3, 2).places, [3])
        self.assertEqual(net.parts(), [[0, 1, 2], [3]])

    def test_lists_handed_in_may_be_changed_behind(self):
        flows, heights, places = [ONE], [ONE, NOUGHT], [0, 2]
        made, apart = Stream(flows, heights), Apart(places)
        flows[0] = (5, 1)
        heights.append(NOUGHT)
        places.remove(2)
        self.assertEqual((made.flows, made.heights), ([ONE], [ONE, NOUGHT]))
        self.assertEqual(apart.places, [0, 2])
        self.assertIs(made.shows(net_of(2, (0, 1)), 0, 1), True)
        self.assertIs(apart.shows(net_of(3, (0, 2)), 0, 1), True)

    def test_lists_handed_in_are_not_changed(self):
        flows, heights, places = [ONE], [ONE, NOUGHT], [2, 0]
        Stream(flows, heights).shows(net_of(2, (0, 1)), 0, 1)
        Apart(places).shows(net_of(3, (0, 2)), 0, 1)
        self.assertEqual((flows, heights, places), ([ONE], [ONE, NOUGHT], [2, 0]))


if __name__ == "__main__":
    unittest.main()
