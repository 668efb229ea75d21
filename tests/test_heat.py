import unittest
from fractions import Fraction

from samples import MOST, NOUGHT, ONE, Numbers, all_nets, chain, net_of, pair, ring, small_nets, value
from splitstream.errors import BadFlows
from splitstream.fractions import below, is_fraction, made, plus
from splitstream.nets import Net
from splitstream.streams import hardness_of, heat, stream, sums_of

NO_FRACTIONS = [
    None, True, False, 0, 1, "1", "", 1.0, (), (1,), (1, 1, 1), [1, 1], "11", {}, Fraction(1, 2),
    (2, 4), (0, 2), (3, 3), (1, 0), (0, 0), (1, -1), (-1, -2), (0, -1),
    (True, 1), (1, True), (False, 1), (None, 1), (1, None), ("1", 1), (1, "1"), (1.0, 1), (1, 1.0), ((1, 1), 1),
]


def mixed_flows(start, many):
    numbers = Numbers(start)
    return [made(numbers.below(9) - 4, numbers.below(4) + 1) for at in range(many)]


def streams_of(net):
    return [
        (one, other, stream(net, one, other))
        for one in range(net.size) for other in range(net.size) if other in net.part(one)]


class Sums(unittest.TestCase):
    def test_flows_along_a_way(self):
        net = Net(4, [(0, 1, ONE), (2, 1, (5, 1)), (2, 3, (1, 3)), (0, 3, ONE)])
        self.assertEqual(sums_of(net, [ONE, (-1, 1), ONE, NOUGHT]), [ONE, NOUGHT, NOUGHT, (-1, 1)])
        self.assertEqual(sums_of(net, [(1, 2), NOUGHT, NOUGHT, (1, 3)]), [(5, 6), (-1, 2), NOUGHT, (-1, 3)])
        self.assertEqual(sums_of(net=net, flows=[NOUGHT] * 4), [NOUGHT] * 4)

    def test_a_ring_of_flow_leaves_nothing(self):
        self.assertEqual(sums_of(net_of(3, (0, 1), (1, 2), (2, 0)), [(7, 3)] * 3), [NOUGHT] * 3)

    def test_pipes_side_by_side(self):
        self.assertEqual(sums_of(net_of(2, (0, 1), (1, 0), (0, 1)), [ONE, (5, 1), (1, 2)]), [(-7, 2), (7, 2)])

    def test_a_net_without_pipes(self):
        for places in range(1, 9):
            self.assertEqual(sums_of(Net(places, []), []), [NOUGHT] * places)

    def test_flows_of_any_kind(self):
        for start, net in enumerate(all_nets()):
            flows = mixed_flows(start, len(net.pipes()))
            wanted = [Fraction(0)] * net.size
            for (one, other, hardness), flow in zip(net.pipes(), flows):
                wanted[one] += value(flow)
                wanted[other] -= value(flow)
            self.assertEqual(sums_of(net, flows), [pair(number) for number in wanted])

    def test_a_streams_sums(self):
        for net in small_nets():
            for one, other, answer in streams_of(net):
                wanted = [0] * net.size
                wanted[one] += 1
                wanted[other] -= 1
                self.assertEqual(sums_of(net, answer.flows), [(number, 1) for number in wanted])


class Heat(unittest.TestCase):
    def test_each_square_times_the_hardness(self):
        net = Net(3, [(0, 1, (2, 1)), (2, 1, (1, 3)), (0, 1, ONE)])
        self.assertEqual(heat(net, [ONE, NOUGHT, NOUGHT]), (2, 1))
        self.assertEqual(heat(net, [(-3, 1), NOUGHT, NOUGHT]), (18, 1))
        self.assertEqual(heat(net, [(1, 2), (3, 1), (-2, 1)]), (15, 2))
        self.assertEqual(heat(net=net, flows=[NOUGHT] * 3), NOUGHT)

    def test_a_net_without_pipes(self):
        self.assertEqual(heat(Net(1, []), []), NOUGHT)
        self.assertEqual(heat(Net(8, []), []), NOUGHT)

    def test_hardnesses_at_the_bounds(self):
        net = Net(2, [(0, 1, (1, MOST)), (1, 0, (MOST, 1))])
        self.assertEqual(heat(net, [ONE, ONE]), (MOST ** 2 + 1, MOST))

    def test_flows_of_any_kind(self):
        for start, net in enumerate(all_nets()):
            flows = mixed_flows(start, len(net.pipes()))
            wanted = sum(value(flow) ** 2 * value(pipe[2]) for pipe, flow in zip(net.pipes(), flows))
            self.assertEqual(heat(net, flows), pair(wanted))
            self.assertTrue(is_fraction(heat(net, flows)))

    def test_a_streams_heat_is_how_hard_the_net_is(self):
        for net in small_nets() + [chain(8, [ONE, (3, 7)]), ring(8, [ONE, (1, MOST), (MOST, 1)])]:
            for one, other, answer in streams_of(net):
                self.assertEqual(heat(net, answer.flows), hardness_of(net, one, other))
                self.assertEqual(heat(net, answer.flows), answer.heights[one])

    def test_no_other_flows_with_the_same_sums_have_as_little(self):
        net = Net(4, [(0, 1, ONE), (1, 2, (2, 1)), (2, 0, (1, 3)), (2, 3, ONE), (1, 3, (5, 2)), (1, 0, (4, 1))])
        rings = [[1, 1, 1, 0, 0, 0], [0, 1, 0, 1, -1, 0], [1, 0, 0, 0, 0, 1], [0, -1, -1, 0, 0, 1]]
        for one, other, answer in streams_of(net):
            for ring_of_flow in rings:
                for much in (1, -1, Fraction(1, 1000), Fraction(-3, 7)):
                    flows = [plus(flow, pair(part * much)) for flow, part in zip(answer.flows, ring_of_flow)]
                    self.assertEqual(sums_of(net, flows), sums_of(net, answer.flows))
                    self.assertTrue(below(heat(net, answer.flows), heat(net, flows)))


class Refused(unittest.TestCase):
    def assert_refused(self, net, flows):
        for asked in (sums_of, heat):
            with self.subTest(asked=asked.__name__, flows=flows), self.assertRaises(BadFlows):
                asked(net, flows)

    def test_too_few_and_too_many(self):
        net = net_of(3, (0, 1), (1, 2))
        for many in (0, 1, 3, 4, 28):
            self.assert_refused(net, [ONE] * many)
        self.assert_refused(Net(1, []), [ONE])

    def test_entries_that_are_no_fractions(self):
        net = net_of(3, (0, 1), (1, 2), (2, 0))
        for entry in NO_FRACTIONS:
            for at in range(3):
                flows = [ONE, NOUGHT, (-1, 2)]
                flows[at] = entry
                self.assert_refused(net, flows)

    def test_what_is_no_list(self):
        net = net_of(3, (0, 1), (1, 2))
        for flows in ((ONE, ONE), None, True, 2, "ab", {}, {0: ONE, 1: ONE}, iter([ONE, ONE])):
            self.assert_refused(net, flows)
        for flows in ((), None, "", {}, False, 0):
            self.assert_refused(Net(2, []), flows)

    def test_large_fractions_are_none_to_refuse(self):
        net = net_of(2, (0, 1))
        flow = (-7 ** 300, 2 ** 300)
        self.assertEqual(sums_of(net, [flow]), [flow, (7 ** 300, 2 ** 300)])
        self.assertEqual(heat(net, [flow]), (7 ** 600, 2 ** 600))


class OwnLists(unittest.TestCase):
    def test_flows_handed_in_are_not_changed(self):
        net = net_of(3, (0, 1), (1, 2))
        flows = [ONE, (1, 2)]
        given = sums_of(net, flows)
        heat(net, flows)
        self.assertEqual(flows, [ONE, (1, 2)])
        given.clear()
        self.assertEqual(sums_of(net, flows), [ONE, (-1, 2), (-1, 2)])
        self.assertEqual(net.pipes(), [(0, 1, ONE), (1, 2, ONE)])


if __name__ == "__main__":
    unittest.main()
