import unittest

from splitstream.errors import BadFlows, BadFraction, BadNet, BadRow, NetError, NoPipe, NoPlace
from splitstream.fractions import made
from splitstream.nets import Net, with_pipe, without_pipe

UNDER_NET_ERROR = [BadFraction, BadNet, NoPlace, NoPipe, BadFlows, BadRow]


class Classes(unittest.TestCase):
    def test_net_error_stands_straight_under_value_error(self):
        self.assertEqual(NetError.__bases__, (ValueError,))

    def test_each_refusal_stands_straight_under_net_error(self):
        for kind in UNDER_NET_ERROR:
            with self.subTest(kind=kind.__name__):
                self.assertEqual(kind.__bases__, (NetError,))

    def test_bad_row_has_its_row(self):
        for row in (1, 2, 29, 1000):
            self.assertEqual(BadRow(row).row, row)


class Words(unittest.TestCase):
    def words_of(self, kind, call):
        with self.assertRaises(kind) as caught:
            call()
        return str(caught.exception), repr(caught.exception)

    def assert_same_words(self, kind, one, other):
        self.assertEqual(self.words_of(kind, one), self.words_of(kind, other))

    def test_bad_row_tells_no_number(self):
        self.assertEqual(str(BadRow(1)), str(BadRow(77)))
        self.assertEqual(repr(BadRow(1)), repr(BadRow(77)))

    def test_bad_fraction_tells_nothing_of_what_was_handed_in(self):
        self.assert_same_words(BadFraction, lambda: made("secret", 1), lambda: made(7919, 0))

    def test_bad_net_tells_nothing_of_what_was_handed_in(self):
        net = Net(2, [])
        self.assert_same_words(BadNet, lambda: Net(7919, []), lambda: Net(2, [(0, "secret", (1, 1))]))
        self.assert_same_words(
            BadNet, lambda: with_pipe(net, 0, 7919, (1, 1)), lambda: with_pipe(net, 0, 1, "secret"))

    def test_no_place_tells_nothing_of_what_was_handed_in(self):
        net = Net(2, [])
        self.assert_same_words(NoPlace, lambda: net.part(7919), lambda: net.part("secret"))

    def test_no_pipe_tells_nothing_of_what_was_handed_in(self):
        net = Net(2, [])
        self.assert_same_words(NoPipe, lambda: without_pipe(net, 7919), lambda: without_pipe(net, "secret"))


if __name__ == "__main__":
    unittest.main()
