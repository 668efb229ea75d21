import unittest

from samples import NOUGHT, ONE, all_nets, net_of, small_nets
from splitstream.fractions import plus, times
from splitstream.nets import Net, with_pipe
from splitstream.streams import Answer, Apart, Stream, stream


def every_two(net):
    return [(one, other) for one in range(net.size) for other in range(net.size)]


def hanging_together(net):
    return [(one, other) for one, other in every_two(net) if other in net.part(one)]


def apart_in(net):
    return [(one, other) for one, other in every_two(net) if other not in net.part(one)]


def changed(values, at, more):
    return values[:at] + [plus(values[at], more)] + values[at + 1:]


class OfStreams(unittest.TestCase):
    def test_every_answer_is_shown(self):
        for net in all_nets():
            for one, other in every_two(net):
                self.assertIs(stream(net, one, other).shows(net, one, other), True)

    def test_answers_of_the_askers_own(self):
        net = net_of(3, (0, 1), (1, 2), (2, 0))
        self.assertIs(
            Stream([(2, 3), (-1, 3), (-1, 3)], [(2, 3), NOUGHT, (1, 3)]).shows(net, 0, 1), True)
        self.assertIs(Stream([NOUGHT] * 3, [NOUGHT] * 3).shows(net, 2, 2), True)
        self.assertIs(Stream([], [NOUGHT]).shows(Net(1, []), 0, 0), True)

    def test_one_flow_changed(self):
        for net in small_nets():
            for one, other in hanging_together(net):
                answer = stream(net, one, other)
                for at in range(len(answer.flows)):
                    for more in (ONE, (-1, 7)):
                        wrong = Stream(changed(answer.flows, at, more), answer.heights)
                        self.assertIs(wrong.shows(net, one, other), False)

    def test_one_height_changed(self):
        for net in small_nets():
            for one, other in hanging_together(net):
                answer = stream(net, one, other)
                for at in range(net.size):
                    for more in (ONE, (-1, 7)):
                        wrong = Stream(answer.flows, changed(answer.heights, at, more))
                        self.assertIs(wrong.shows(net, one, other), False)

    def test_all_heights_raised(self):
        for net in small_nets():
            for one, other in hanging_together(net):
                answer = stream(net, one, other)
                for more in (ONE, (-1, 3)):
                    raised = [plus(height, more) for height in answer.heights]
                    self.assertIs(Stream(answer.flows, raised).shows(net, one, other), False)

    def test_the_heights_of_one_part_raised(self):
        net = net_of(5, (0, 1), (2, 3))
        answer = stream(net, 0, 1)
        for part in ([0, 1], [2, 3], [4]):
            raised = [plus(height, ONE) if at in part else height for at, height in enumerate(answer.heights)]
            self.assertIs(Stream(answer.flows, raised).shows(net, 0, 1), False)

    def test_heights_with_the_first_place_at_nought(self):
        answer = stream(net_of(2, (0, 1)), 0, 1)
        self.assertIs(Stream(answer.flows, [NOUGHT, (-1, 1)]).shows(net_of(2, (0, 1)), 0, 1), False)

    def test_a_stream_of_two_or_of_none(self):
        for net in small_nets():
            for one, other in hanging_together(net):
                if one != other:
                    answer = stream(net, one, other)
                    for factor in ((2, 1), NOUGHT, (-1, 1)):
                        wrong = Stream(
                            [times(flow, factor) for flow in answer.flows],
                            [times(height, factor) for height in answer.heights])
                        self.assertIs(wrong.shows(net, one, other), False)

    def test_flows_with_the_sums_that_no_heights_have(self):
        net = net_of(3, (0, 1), (1, 2), (2, 0))
        for heights in ([ONE, NOUGHT, NOUGHT], [ONE, NOUGHT, (1, 2)], [(2, 3), NOUGHT, (1, 3)]):
            self.assertIs(Stream([ONE, NOUGHT, NOUGHT], heights).shows(net, 0, 1), False)

    def test_a_ring_of_flow_from_a_place_to_itself(self):
        net = net_of(3, (0, 1), (1, 2), (2, 0))
        self.assertIs(Stream([ONE] * 3, [NOUGHT] * 3).shows(net, 0, 0), False)
        self.assertIs(Stream([NOUGHT] * 3, [ONE] * 3).shows(net, 0, 0), False)

    def test_another_pairs_stream(self):
        for net in small_nets():
            for one, other in hanging_together(net):
                answer = stream(net, one, other)
                for first, second in hanging_together(net):
                    same = (one, other) == (first, second) or (one == other and first == second)
                    self.assertIs(answer.shows(net, first, second), same)

    def test_one_made_for_another_net(self):
        net = Net(3, [(0, 1, ONE), (1, 2, (2, 1)), (2, 0, (3, 1))])
        answer = stream(net, 0, 1)
        for pipes in (
                [(0, 1, ONE), (1, 2, (2, 1)), (2, 0, (4, 1))],
                [(1, 0, ONE), (1, 2, (2, 1)), (2, 0, (3, 1))],
                [(1, 2, (2, 1)), (0, 1, ONE), (2, 0, (3, 1))],
                [(0, 1, ONE), (1, 2, (2, 1))],
                [(0, 1, ONE), (1, 2, (2, 1)), (2, 0, (3, 1)), (0, 1, ONE)],
                []):
            self.assertIs(answer.shows(Net(3, pipes), 0, 1), False)
        self.assertIs(answer.shows(Net(4, net.pipes()), 0, 1), False)
        self.assertIs(answer.shows(with_pipe(net, 0, 2, ONE), 0, 1), False)

    def test_a_stream_where_the_two_do_not_hang_together(self):
        for net in small_nets():
            for one, other in apart_in(net):
                self.assertIs(
                    Stream([NOUGHT] * len(net.pipes()), [NOUGHT] * net.size).shows(net, one, other), False)
        net = net_of(4, (0, 1), (2, 3))
        self.assertIs(Stream([ONE, ONE], [ONE, NOUGHT, ONE, NOUGHT]).shows(net, 0, 3), False)

    def test_places_that_are_not_there_are_not_refused(self):
        net = net_of(2, (0, 1))
        for one, other in ((0, 2), (2, 0), (-1, 1), (2, 3)):
            self.assertIs(stream(net, 0, 1).shows(net, one, other), False)
            self.assertIs(stream(net, 0, 0).shows(net, one, other), False)


class OfBareAnswers(unittest.TestCase):
    def test_nothing_is_shown_by_an_answer_that_tells_nothing(self):
        for one, other in ((0, 0), (0, 1), (0, 2)):
            self.assertIs(Answer().shows(net_of(3, (0, 1)), one, other), False)


class OfAparts(unittest.TestCase):
    def test_the_part_of_the_first_place(self):
        for net in all_nets():
            for one, other in every_two(net):
                self.assertIs(Apart(net.part(one)).shows(net, one, other), other not in net.part(one))

    def test_an_apart_where_they_hang_together(self):
        for net in small_nets():
            for one, other in hanging_together(net):
                for places in ([one], net.part(one), [place for place in net.part(one) if place != other], []):
                    self.assertIs(Apart(places).shows(net, one, other), False)

    def test_other_parts_too_and_in_any_order(self):
        net = net_of(7, (5, 0), (4, 1), (3, 5))
        for places in ([0, 3, 5], [5, 3, 0], [3, 0, 5, 2], [6, 0, 3, 2, 5], [0, 5, 3, 3, 0]):
            self.assertIs(Apart(places).shows(net, 3, 1), True)
        self.assertIs(Apart([4, 2, 1]).shows(net, 1, 5), True)

    def test_a_place_of_the_part_missing(self):
        net = net_of(7, (5, 0), (4, 1), (3, 5))
        for places in ([0, 3], [3, 5], [3], [0, 5], [0, 3, 2], []):
            self.assertIs(Apart(places).shows(net, 3, 1), False)

    def test_half_of_another_part(self):
        net = net_of(7, (5, 0), (4, 1), (3, 5), (2, 6))
        for places in ([0, 3, 5, 2], [0, 3, 5, 6], [0, 3, 5, 4]):
            self.assertIs(Apart(places).shows(net, 3, 1), False)
        self.assertIs(Apart([0, 3, 5, 6, 2]).shows(net, 3, 1), True)

    def test_the_other_one_among_them(self):
        net = net_of(7, (5, 0), (4, 1), (3, 5))
        for places in ([0, 3, 5, 1, 4], [0, 3, 5, 1], list(range(7))):
            self.assertIs(Apart(places).shows(net, 3, 1), False)

    def test_the_one_not_among_them(self):
        net = net_of(7, (5, 0), (4, 1), (3, 5))
        for places in ([2], [], [2, 6], [6]):
            self.assertIs(Apart(places).shows(net, 3, 1), False)

    def test_a_place_to_itself(self):
        for places in ([], [0], [1], [0, 1]):
            self.assertIs(Apart(places).shows(Net(2, []), 0, 0), False)


if __name__ == "__main__":
    unittest.main()
