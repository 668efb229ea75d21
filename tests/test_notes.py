import unittest

from samples import AT_THE_BOUNDS, MOST, ONE, all_nets, every_two_of_eight, net_of
from splitstream.errors import BadRow
from splitstream.nets import Net
from splitstream.notes import read, written

# What stands in the place of a row `0-1 3/2` of a net of 3 places, and isn't one.
SPOILT_PIPES = [
    "", " ", "\t", "x", "-", "/", "0", "0-1", "0-1 ", "0-1  ", " 3/2", "3/2", "0 1 3/2", "0-1-2 3/2", "0--1 3/2",
    "-0-1 3/2", " 0-1 3/2", "0-1 3/2 ", "0-1  3/2", "0-1\t3/2", "\t0-1 3/2", "0-1 3/2\t", "0-13/2", "0 -1 3/2",
    "0- 1 3/2", "0-\t1 3/2", "0-1 3 /2", "0-1 3/ 2", "0-1 3/2 1", "0-1 3/2/1", "0-1 3//2", "0-1 /2", "0-1 3/",
    "0-1 /", "-1 3/2", "0- 3/2", "- 3/2", "00-1 3/2", "0-01 3/2", "0-1 03/2", "0-1 3/02", "+0-1 3/2", "0-+1 3/2",
    "0-1 +3/2", "0-1 3/+2", "-0-1 3", "0--1 3", "0-1 -3/2", "0-1 3/-2", "0-1 -3/-2", "0-1 -3", "0-1 3_0",
    "0-1 3/2_0", "0-1 1_000", "0-1_0 3", "0_0-1 3", "0-1 6/4", "0-1 3/3", "0-1 2/2", "0-1 3/1", "0-1 1/1", "0-1 03",
    "0-1 0", "0-1 0/1", "0-1 0/5", "0-1 3/0", "0-1 0/0", "0-1 00", "0-1 1000000001", "0-1 1/1000000001",
    "0-1 1000000001/2", "0-1 10000000000", "0-1 " + "9" * 5000, "0-1 1/" + "9" * 5000, "9" * 5000 + "-1 3/2",
    "0-" + "9" * 5000 + " 3/2", "0-3 3/2", "3-0 3/2", "0-8 3/2", "7-1 3/2", "0-10 3/2", "0-0 3/2", "1-1 3/2",
    "2-2 1", "3-3 1", "a-1 3/2", "0-b 3/2", "0-1 c", "0-1 3/d", "0-1 3/2e", "0-1 3.5", "0-1 3.0", "0-1 1e3",
    "0-1 0x3", "0-1 (3, 2)", "0:1 3/2", "0-1 3:2", "0-1,3/2", "0-1 3/2;", "0-1 ~", "~", "#", "places", "places 3",
    "places 2", "places 3 0-1 3/2", "None", "True-0 3/2",
]
SPOILT_PLACES = [
    "", " ", "3", "places", "places ", "places  3", " places 3", "places 3 ", "places\t3", "\tplaces 3",
    "places 3\t", "places3", "Places 3", "PLACES 3", "place 3", "placess 3", "xplaces 3", "places: 3", "places 03",
    "places +3", "places -3", "places 3_0", "places 0", "places 00", "places 9", "places 10", "places 1000",
    "places " + "9" * 5000, "places -1", "places three", "places x", "places 3 3", "places 3.0", "places 3/1",
    "places 3-1", "places 1e0", "places 0x3", "places None", "places True", "0-1 3/2", "0-1 1", "~", "-",
    "#places 3", "places ~",
]


class Written(unittest.TestCase):
    def test_to_the_sign(self):
        net = Net(4, [(0, 1, ONE), (3, 1, (5, 2)), (1, 3, (7, 1)), (0, 1, (1, 3))])
        self.assertEqual(written(net=net), "places 4\n0-1 1\n3-1 5/2\n1-3 7\n0-1 1/3")
        self.assertIs(type(written(net)), str)

    def test_no_pipe(self):
        for places in range(1, 9):
            self.assertEqual(written(Net(places, [])), f"places {places}")

    def test_28_pipes(self):
        rows = [f"{one}-{other} {hardness[0]}" for one, other, hardness in every_two_of_eight()]
        self.assertEqual(written(Net(8, every_two_of_eight())), "\n".join(["places 8"] + rows))
        self.assertEqual(written(Net(2, [(1, 0, (2, 3))] * 28)), "places 2" + "\n1-0 2/3" * 28)

    def test_the_bounds(self):
        self.assertEqual(
            written(Net(2, [(1, 0, hardness) for hardness in AT_THE_BOUNDS])),
            "places 2\n1-0 1\n1-0 1/1000000000\n1-0 1000000000\n1-0 1000000000/999999999\n1-0 999999999/1000000000\n"
            "1-0 1/999999999\n1-0 999999999")

    def test_the_net_stays_as_it_was(self):
        net = net_of(2, (1, 0))
        written(net)
        self.assertEqual((net.size, net.pipes()), (2, [(1, 0, ONE)]))


class Read(unittest.TestCase):
    def test_what_is_written(self):
        for net in all_nets() + [Net(2, [(1, 0, hardness) for hardness in AT_THE_BOUNDS])]:
            again = read(written(net))
            self.assertIsInstance(again, Net)
            self.assertEqual((again.size, again.pipes()), (net.size, net.pipes()))
            self.assertEqual(written(again), written(net))

    def test_texts_of_the_askers_own(self):
        net = read(text="places 3\n0-1 3/2\n2-0 1000000000\n1-0 10\n0-2 1/10")
        self.assertEqual(net.size, 3)
        self.assertEqual(net.pipes(), [(0, 1, (3, 2)), (2, 0, (MOST, 1)), (1, 0, (10, 1)), (0, 2, (1, 10))])
        self.assertEqual((read("places 1").size, read("places 1").pipes()), (1, []))
        self.assertEqual(read("places 8\n7-0 1").pipes(), [(7, 0, ONE)])
        self.assertEqual(len(read("places 2" + "\n0-1 1" * 28).pipes()), 28)


class Refused(unittest.TestCase):
    def assert_row(self, rows, number):
        with self.subTest(rows=[row[:40] for row in rows]):
            with self.assertRaises(BadRow) as caught:
                read("\n".join(rows))
            self.assertEqual(caught.exception.row, number)
            self.assertIs(type(caught.exception.row), int)

    def test_an_empty_text(self):
        self.assert_row([""], 1)

    def test_a_spoilt_first_row(self):
        for first in SPOILT_PLACES:
            self.assert_row([first], 1)
            self.assert_row([first, "0-1 1"], 1)
            self.assert_row([first, "x", "0-1 2/2"], 1)

    def test_a_spoilt_row_of_a_pipe(self):
        for row in SPOILT_PIPES:
            self.assert_row(["places 3", row], 2)
            self.assert_row(["places 3", "0-1 3/2", row], 3)
            self.assert_row(["places 3", row, "0-1 3/2"], 2)
            self.assert_row(["places 3", "0-1 1", "1-2 1/2", row, "0-1 2", "2-0 5"], 4)

    def test_the_first_of_several_spoilt_rows(self):
        self.assert_row(["places 3", "0-1 1", "0-3 1", "x", ""], 3)
        self.assert_row(["places 3", "x", "0-3 1"], 2)
        self.assert_row(["places 9", "x"], 1)
        self.assert_row(["places 3", "0-1 2/2", "0-1 02"], 2)

    def test_the_first_row_missing(self):
        self.assert_row(["0-1 1", "0-1 1"], 1)
        self.assert_row(["", "places 3", "0-1 1"], 1)

    def test_the_first_row_given_twice(self):
        self.assert_row(["places 3", "places 3", "0-1 1"], 2)
        self.assert_row(["places 3", "0-1 1", "places 3"], 3)

    def test_a_line_feed_behind_the_last_row(self):
        self.assert_row(["places 3", ""], 2)
        self.assert_row(["places 3", "0-1 1", ""], 3)
        self.assert_row(["places 3", "0-1 1", "", ""], 3)
        self.assert_row(["places 2"] + ["0-1 1"] * 28 + [""], 30)

    def test_an_empty_row_between(self):
        self.assert_row(["places 3", "", "0-1 1"], 2)
        self.assert_row(["places 3", "0-1 1", "", "0-1 1"], 3)

    def test_a_29th_pipe(self):
        self.assert_row(["places 2"] + ["0-1 1"] * 29, 30)
        self.assert_row(["places 2"] + ["0-1 1"] * 40, 30)
        self.assert_row(["places 2"] + ["0-1 1"] * 28 + ["x"], 30)
        self.assert_row(["places 2"] + ["0-1 1"] * 27 + ["0-2 1"] + ["0-1 1"] * 5, 29)

    def test_places_are_bounded_by_the_net(self):
        for places in range(1, 9):
            if places > 1:
                self.assertEqual(read(f"places {places}\n0-{places - 1} 1").pipes(), [(0, places - 1, ONE)])
            self.assert_row([f"places {places}", f"0-{places} 1"], 2)
            self.assert_row([f"places {places}", f"{places}-0 1"], 2)

    def test_each_row_cut_short_or_with_a_sign_more(self):
        whole = "places 3\n0-1 3/2\n1-2 10"
        for at in range(len(whole)):
            for sign in ("~", "\t", " ", "+", "_"):
                text = whole[:at] + sign + whole[at:]
                with self.subTest(text=text), self.assertRaises(BadRow) as caught:
                    read(text)
                self.assertEqual(caught.exception.row, whole[:at].count("\n") + 1)


if __name__ == "__main__":
    unittest.main()
