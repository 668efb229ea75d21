import unittest
from itertools import combinations

from samples import AT_THE_BOUNDS, MOST, ONE, OTHER_KINDS, all_nets, chain, every_two_of_eight, mixed_net, net_of, \
    pair, ring, small_nets, value
from splitstream.errors import BadNet, NoPlace
from splitstream.nets import Net
from splitstream.slims import slim, taken_out
from splitstream.streams import hardness_of


def eases_of(net):
    eases = {}
    for one, other, hardness in net.pipes():
        ends = (min(one, other), max(one, other))
        eases[ends] = eases.get(ends, 0) + 1 / value(hardness)
    return eases


def eases_without(net, at):
    eases = eases_of(net)
    around = {place: eases.pop((min(place, at), max(place, at)), 0) for place in range(net.size) if place != at}
    for one, other in combinations(sorted(around), 2):
        if around[one] and around[other]:
            eases[one, other] = eases.get((one, other), 0) + around[one] * around[other] / sum(around.values())
    return {(one - (one > at), other - (other > at)): ease for (one, other), ease in eases.items()}


def pipes_by(eases):
    return [(one, other, pair(1 / eases[one, other])) for one, other in sorted(eases)]


class SlimCase(unittest.TestCase):
    def assert_slim(self, net):
        self.assertIsInstance(net, Net)
        ends = [(one, other) for one, other, hardness in net.pipes()]
        self.assertEqual(ends, sorted(set(ends)))
        for one, other in ends:
            self.assertLess(one, other)

    def assert_made_or_refused(self, call, places, pipes):
        if all(max(hardness) <= MOST for one, other, hardness in pipes):
            made = call()
            self.assert_slim(made)
            self.assertEqual((made.size, made.pipes()), (places, pipes))
            return True
        with self.assertRaises(BadNet):
            call()
        return False


class Slim(SlimCase):
    def test_side_by_side_as_one(self):
        net = slim(net=Net(2, [(0, 1, ONE), (1, 0, (1, 2)), (0, 1, (2, 1))]))
        self.assertEqual((net.size, net.pipes()), (2, [(0, 1, (2, 7))]))

    def test_from_the_lesser_place_to_the_greater_and_rising(self):
        net = slim(Net(5, [(4, 3, ONE), (2, 0, (3, 2)), (3, 0, (5, 1)), (0, 1, (7, 3)), (3, 1, (1, 9))]))
        self.assertEqual(net.pipes(), [
            (0, 1, (7, 3)), (0, 2, (3, 2)), (0, 3, (5, 1)), (1, 3, (1, 9)), (3, 4, ONE)])

    def test_single_places(self):
        for places in range(1, 9):
            net = slim(Net(places, []))
            self.assertEqual((net.size, net.pipes()), (places, []))

    def test_28_pipes(self):
        self.assertEqual(slim(Net(8, every_two_of_eight()[::-1])).pipes(), every_two_of_eight())
        self.assertEqual(slim(Net(2, [(1, 0, (7, 1))] * 28)).pipes(), [(0, 1, (1, 4))])

    def test_nets_of_every_kind(self):
        made = [
            self.assert_made_or_refused(lambda: slim(net), net.size, pipes_by(eases_of(net)))
            for net in all_nets() + [mixed_net(start, 4, 9, 50) for start in range(40, 60)]]
        self.assertGreater(made.count(True), 20)

    def test_as_hard_as_before(self):
        for net in small_nets():
            less = slim(net)
            for one, other in combinations(range(net.size), 2):
                self.assertEqual(hardness_of(less, one, other), hardness_of(net, one, other))

    def test_at_the_bounds_and_beyond(self):
        self.assertEqual(slim(Net(2, [(0, 1, (1, MOST // 2))] * 2)).pipes(), [(0, 1, (1, MOST))])
        self.assertEqual(slim(Net(2, [(0, 1, (MOST, 1))] * 2)).pipes(), [(0, 1, (MOST // 2, 1))])
        self.assertEqual(slim(Net(2, [(0, 1, (31622, 1)), (0, 1, (31623, 1))])).pipes(), [(0, 1, (999982506, 63245))])
        for hardness in AT_THE_BOUNDS:
            self.assertEqual(slim(Net(2, [(1, 0, hardness)])).pipes(), [(0, 1, hardness)])
        for pipes in (
                [(0, 1, (1, MOST))] * 2, [(0, 1, (1, MOST)), (1, 0, ONE)], [(0, 1, (1, MOST // 2))] * 3,
                [(0, 1, (31623, 1)), (1, 0, (31624, 1))], [(0, 1, (MOST, 1)), (0, 1, (MOST - 1, 1))],
                [(0, 2, ONE), (1, 2, (1, MOST)), (2, 1, (1, MOST))]):
            with self.subTest(pipes=pipes), self.assertRaises(BadNet):
                slim(Net(3, pipes))

    def test_a_sum_beyond_the_bounds_on_the_way_to_one_within_is_not_refused(self):
        self.assertEqual(
            slim(Net(2, [(0, 1, (31623, 1)), (0, 1, (31624, 1)), (0, 1, (31623, 1)), (0, 1, (31624, 1))] * 7)).pipes(),
            [(0, 1, pair(1 / (14 / value((31623, 1)) + 14 / value((31624, 1)))))])

    def test_the_net_stays_as_it_was(self):
        pipes = [(1, 0, ONE), (0, 1, ONE)]
        net = Net(2, list(pipes))
        slim(net).pipes().clear()
        self.assertEqual((net.size, net.pipes()), (2, pipes))


class TakenOut(SlimCase):
    def test_the_middle_of_a_chain(self):
        net = taken_out(net=Net(3, [(1, 0, (1, 2)), (1, 2, (1, 3))]), at=1)
        self.assertEqual((net.size, net.pipes()), (2, [(0, 1, (5, 6))]))

    def test_a_star_becomes_a_ring(self):
        net = taken_out(Net(4, [(0, 3, (2, 1)), (3, 1, (3, 1)), (2, 3, (6, 1))]), 3)
        self.assertEqual(net.pipes(), [(0, 1, (6, 1)), (0, 2, (12, 1)), (1, 2, (18, 1))])

    def test_a_star_of_8(self):
        for middle in range(8):
            net = taken_out(net_of(8, *[(place, middle) for place in range(8) if place != middle]), middle)
            self.assertEqual(net.size, 7)
            self.assertEqual(net.pipes(), [(one, other, (7, 1)) for one, other in combinations(range(7), 2)])

    def test_new_pipes_join_those_that_are_there(self):
        net = taken_out(net_of(3, (0, 1), (1, 2), (2, 0)), 0)
        self.assertEqual(net.pipes(), [(0, 1, (2, 3))])

    def test_eases_side_by_side_at_the_place_add(self):
        net = taken_out(net_of(3, (0, 1), (1, 0), (1, 2)), 1)
        self.assertEqual(net.pipes(), [(0, 1, (3, 2))])

    def test_the_places_behind_have_one_number_less(self):
        net = net_of(5, (4, 3), (1, 0))
        self.assertEqual(taken_out(net, 0).pipes(), [(2, 3, ONE)])
        self.assertEqual(taken_out(net, 2).pipes(), [(0, 1, ONE), (2, 3, ONE)])
        self.assertEqual(taken_out(net, 4).pipes(), [(0, 1, ONE)])

    def test_a_place_with_no_pipe_or_with_one(self):
        for places in range(2, 9):
            for at in range(places):
                less = taken_out(Net(places, []), at)
                self.assertEqual((less.size, less.pipes()), (places - 1, []))
        self.assertEqual(taken_out(net_of(2, (0, 1)), 1).pipes(), [])
        self.assertEqual(taken_out(net_of(3, (2, 0), (0, 1)), 2).pipes(), [(0, 1, ONE)])
        self.assertEqual(taken_out(net_of(3, (2, 0), (0, 2), (0, 1)), 2).pipes(), [(0, 1, ONE)])

    def test_what_is_left_is_made_slim(self):
        net = taken_out(net_of(4, (3, 2), (2, 1), (1, 2)), 0)
        self.assertEqual(net.pipes(), [(0, 1, (1, 2)), (1, 2, ONE)])

    def test_nets_of_every_kind(self):
        made = []
        for net in all_nets() + [mixed_net(start, 5, 8) for start in range(60, 80)]:
            for at in range(net.size if net.size > 1 else 0):
                made.append(self.assert_made_or_refused(
                    lambda: taken_out(net, at), net.size - 1, pipes_by(eases_without(net, at))))
        self.assertGreater(made.count(True), 100)

    def test_as_hard_as_before_or_as_apart(self):
        for net in small_nets() + [ring(8, [ONE, (2, 3)]), chain(8, [ONE, (7, 5)])]:
            for at in range(net.size if net.size > 1 else 0):
                less = taken_out(net, at)
                left = [place for place in range(net.size) if place != at]
                for one, other in combinations(range(less.size), 2):
                    self.assertEqual(hardness_of(less, one, other), hardness_of(net, left[one], left[other]))

    def test_at_the_bounds_and_beyond(self):
        def in_a_row(one, other):
            return Net(3, [(0, 1, one), (2, 1, other)])

        self.assertEqual(taken_out(in_a_row((MOST - 1, 1), ONE), 1).pipes(), [(0, 1, (MOST, 1))])
        self.assertEqual(taken_out(in_a_row((MOST // 2, 1), (MOST // 2, 1)), 1).pipes(), [(0, 1, (MOST, 1))])
        self.assertEqual(taken_out(in_a_row((1, 31622), (1, 31623)), 1).pipes(), [(0, 1, (63245, 999982506))])
        self.assertEqual(taken_out(in_a_row((MOST, 1), (MOST, 1)), 0).pipes(), [(0, 1, (MOST, 1))])
        for one, other in (
                ((MOST, 1), ONE), ((MOST, 1), (1, MOST)), ((1, 31623), (1, 31624)),
                ((MOST // 2 + 1, 1), (MOST // 2, 1))):
            with self.subTest(one=one, other=other), self.assertRaises(BadNet):
                taken_out(in_a_row(one, other), 1)
        with self.assertRaises(BadNet):
            taken_out(Net(3, [(0, 1, (MOST, 1)), (1, 2, (MOST, 1)), (0, 2, (2, 1))]), 1)

    def test_side_by_side_elsewhere_beyond_the_bounds(self):
        net = Net(3, [(0, 1, (1, MOST)), (1, 0, (1, MOST))])
        with self.assertRaises(BadNet):
            taken_out(net, 2)
        self.assertEqual(taken_out(net, 0).pipes(), [])

    def test_a_step_beyond_the_bounds_to_a_net_within_is_not_refused(self):
        doubled = Net(3, [(0, 1, (1, MOST)), (1, 2, (1, MOST))] * 2)
        self.assertEqual(taken_out(doubled, 1).pipes(), [(0, 1, (1, MOST))])
        joined = Net(3, [(0, 1, (MOST, 1)), (1, 2, (MOST, 1)), (0, 2, (MOST, 1)), (2, 0, (MOST, 1))])
        self.assertEqual(taken_out(joined, 1).pipes(), [(0, 1, (MOST // 5 * 2, 1))])

    def test_more_than_28_pipes_on_the_way_are_not_refused(self):
        net = Net(8, every_two_of_eight())
        for at in range(8):
            self.assertEqual(taken_out(net, at).pipes(), pipes_by(eases_without(net, at)))

    def test_the_net_stays_as_it_was(self):
        net = net_of(3, (1, 0), (0, 1), (2, 1))
        taken_out(net, 1).pipes().clear()
        self.assertEqual((net.size, net.pipes()), (3, [(1, 0, ONE), (0, 1, ONE), (2, 1, ONE)]))


class Refused(unittest.TestCase):
    def assert_refused(self, net, at):
        with self.subTest(size=net.size, at=at), self.assertRaises(NoPlace):
            taken_out(net, at)

    def test_places_that_are_not_there(self):
        for at in OTHER_KINDS + [-1, -3, 3, 8, 7 ** 900]:
            self.assert_refused(net_of(3, (0, 1), (1, 2)), at)
        for places in range(1, 9):
            self.assert_refused(Net(places, []), places)

    def test_the_only_place(self):
        for at in (0, 1, -1, None, True):
            self.assert_refused(Net(1, []), at)

    def test_no_place_ahead_of_no_net(self):
        self.assert_refused(Net(2, [(0, 1, (1, MOST))] * 2), 2)


if __name__ == "__main__":
    unittest.main()
