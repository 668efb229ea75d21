import unittest

from splitstream.errors import BadFlows, BadFraction, BadNet, BadRow, NetError, NoPipe, NoPlace
from splitstream.fractions import made
from splitstream.nets import Net, with_pipe, without_pipe
from splitstream.notes import read
from splitstream.slims import slim, taken_out
from splitstream.streams import chance, hardness_of, heat, stream, sums_of
from splitstream.trees import share

UNDER_NET_ERROR = [BadFraction, BadNet, NoPlace, NoPipe, BadFlows, BadRow]


class Classes(unittest.TestCase):
    def test_net_error_stands_straight_under_value_error(self):
        self.assertEqual(NetError.__bases__, (ValueError,))

    def test_each_refusal_stands_straight_under_net_error(self):
        for kind in UNDER_NET_ERROR:
            with self.subTest(kind=kind.__name__):
                self.assertEqual(kind.__bases__, (NetError,))

    def test_bad_row_has_its_row(self):
        for row in (1, 2, 29, 1000):
            self.assertEqual(BadRow(row).row, row)


class Words(unittest.TestCase):
    def words_of(self, kind, call):
        with self.assertRaises(kind) as caught:
            call()
        # An error of Python's own behind it would be shown too, with words that tell what was handed in.
        self.assertIsNone(caught.exception.__context__)
        self.assertIsNone(caught.exception.__cause__)
        return str(caught.exception), repr(caught.exception)

    def assert_same_words(self, kind, one, other):
        self.assertEqual(self.words_of(kind, one), self.words_of(kind, other))

    def test_bad_row_tells_no_number(self):
        self.assertEqual(str(BadRow(1)), str(BadRow(77)))
        self.assertEqual(repr(BadRow(1)), repr(BadRow(77)))

    def test_bad_fraction_tells_nothing_of_what_was_handed_in(self):
        self.assert_same_words(BadFraction, lambda: made("secret", 1), lambda: made(7919, 0))

    def test_bad_net_tells_nothing_of_what_was_handed_in(self):
        net = Net(2, [])
        self.assert_same_words(BadNet, lambda: Net(7919, []), lambda: Net(2, [(0, "secret", (1, 1))]))
        self.assert_same_words(
            BadNet, lambda: with_pipe(net, 0, 7919, (1, 1)), lambda: with_pipe(net, 0, 1, "secret"))

    def test_no_place_tells_nothing_of_what_was_handed_in(self):
        net = Net(2, [])
        self.assert_same_words(NoPlace, lambda: net.part(7919), lambda: net.part("secret"))

    def test_no_pipe_tells_nothing_of_what_was_handed_in(self):
        net = Net(2, [])
        self.assert_same_words(NoPipe, lambda: without_pipe(net, 7919), lambda: without_pipe(net, "secret"))
        self.assert_same_words(NoPipe, lambda: share(net, 7919), lambda: share(net, "secret"))

    def test_no_place_of_two_or_three_tells_nothing(self):
        net = Net(2, [])
        for asked in (stream, hardness_of):
            self.assert_same_words(NoPlace, lambda: asked(net, 7919, 0), lambda: asked(net, 0, "secret"))
        self.assert_same_words(NoPlace, lambda: chance(net, 7919, 0, 1), lambda: chance(net, 0, 1, "secret"))
        self.assert_same_words(NoPlace, lambda: chance(net, 0, 0, 0), lambda: chance(net, 0, 1, 1))
        self.assert_same_words(NoPlace, lambda: taken_out(net, 7919), lambda: taken_out(net, "secret"))

    def test_bad_flows_tells_nothing_of_what_was_handed_in(self):
        for asked in (sums_of, heat):
            self.assert_same_words(
                BadFlows, lambda: asked(Net(2, []), [7919]), lambda: asked(Net(2, []), "secret"))

    def test_less_that_is_no_net_tells_nothing_of_what_was_handed_in(self):
        fine = Net(3, [(0, 1, (1, 1000000000))] * 2)
        finer = Net(3, [(1, 2, (7, 999999999))] * 5)
        self.assert_same_words(BadNet, lambda: slim(fine), lambda: slim(finer))
        self.assert_same_words(BadNet, lambda: taken_out(fine, 2), lambda: taken_out(finer, 0))

    def test_bad_row_tells_nothing_of_what_was_handed_in(self):
        self.assert_same_words(BadRow, lambda: read("secret"), lambda: read("places 2\n0-1 7919/secret"))


if __name__ == "__main__":
    unittest.main()
