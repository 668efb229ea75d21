import unittest

from samples import MOST, ONE, OTHER_KINDS, every_two_of_eight
from splitstream.errors import BadNet, NoPipe
from splitstream.nets import Net, with_pipe, without_pipe

NO_HARDNESSES = OTHER_KINDS + [
    0, 1, 5, (), (1,), (1, 1, 1), [1, 1], "11", {1: 1, 2: 1},
    (2, 4), (3, 3), (MOST, MOST), (0, 1), (0, 5), (1, 0), (-1, 1), (1, -1), (-1, -1),
    (MOST + 1, 1), (1, MOST + 1), (MOST + 1, MOST), (MOST, MOST + 1), (7 ** 900, 2),
    (True, 1), (1, True), (False, 1), (1, False), (None, 1), (1, None),
    ("1", 1), (1, "1"), (1.0, 1), (1, 1.0), ((1, 1), 1), (1, [1]),
]
NO_PLACES_OF_THREE = OTHER_KINDS + [-1, -3, 3, 4, 1000]


class Making(unittest.TestCase):
    def assert_no_net(self, places, pipes):
        with self.subTest(places=places, pipes=pipes), self.assertRaises(BadNet):
            Net(places, pipes)

    def test_nets_of_1_to_8_places_without_pipes(self):
        for places in range(1, 9):
            net = Net(places, [])
            self.assertEqual(net.size, places)
            self.assertEqual(net.pipes(), [])

    def test_names_of_the_arguments(self):
        net = Net(places=2, pipes=[(0, 1, ONE)])
        self.assertEqual(with_pipe(net=net, one=1, other=0, hardness=ONE).pipes(), [(0, 1, ONE), (1, 0, ONE)])
        self.assertEqual(without_pipe(net=net, at=0).pipes(), [])

    def test_pipes_keep_their_order_and_direction(self):
        pipes = [(2, 0, (3, 2)), (0, 1, ONE), (1, 0, (1, 7)), (0, 2, ONE)]
        net = Net(3, list(pipes))
        self.assertEqual(net.size, 3)
        self.assertEqual(net.pipes(), pipes)

    def test_pipes_side_by_side(self):
        pipes = [(0, 1, ONE), (0, 1, ONE), (1, 0, ONE), (0, 1, (5, 3))]
        self.assertEqual(Net(2, list(pipes)).pipes(), pipes)

    def test_28_pipes(self):
        self.assertEqual(Net(8, every_two_of_eight()).pipes(), every_two_of_eight())
        self.assertEqual(Net(2, [(0, 1, ONE)] * 28).pipes(), [(0, 1, ONE)] * 28)

    def test_hardnesses_at_the_bounds(self):
        for hardness in (ONE, (1, MOST), (MOST, 1), (MOST, MOST - 1), (MOST - 1, MOST)):
            self.assertEqual(Net(2, [(0, 1, hardness)]).pipes(), [(0, 1, hardness)])

    def test_too_few_and_too_many_places(self):
        for places in (0, -1, -8, 9, 10, 1000, 7 ** 900):
            self.assert_no_net(places, [])

    def test_how_many_places_is_a_whole_number(self):
        for places in OTHER_KINDS:
            self.assert_no_net(places, [])

    def test_too_many_pipes(self):
        self.assert_no_net(2, [(0, 1, ONE)] * 29)
        self.assert_no_net(8, every_two_of_eight() + [(0, 1, ONE)])
        self.assert_no_net(2, [(0, 1, ONE)] * 100)

    def test_pipes_stand_in_a_list(self):
        for pipes in (None, True, 0, "", "ab", (), ((0, 1, ONE),), {}, {0: (0, 1, ONE)}, iter([(0, 1, ONE)])):
            self.assert_no_net(2, pipes)

    def test_a_pipe_is_a_triple(self):
        for pipe in OTHER_KINDS + [7, (), (0, 1), (0, 1, ONE, ONE), [0, 1, ONE], "01a", ((0, 1), ONE)]:
            self.assert_no_net(2, [pipe])

    def test_places_of_a_pipe_are_there(self):
        for place in NO_PLACES_OF_THREE:
            self.assert_no_net(3, [(place, 2, ONE)])
            self.assert_no_net(3, [(2, place, ONE)])
            self.assert_no_net(3, [(0, 1, ONE), (place, 2, ONE), (1, 2, ONE)])

    def test_no_pipe_from_a_place_to_itself(self):
        self.assert_no_net(1, [(0, 0, ONE)])
        for place in range(8):
            self.assert_no_net(8, [(place, place, ONE)])

    def test_hardness_is_a_fraction_in_bounds(self):
        for hardness in NO_HARDNESSES:
            self.assert_no_net(2, [(0, 1, hardness)])

    def test_a_wrong_pipe_in_any_row_is_refused(self):
        for at in range(5):
            pipes = [(0, 1, ONE)] * 5
            pipes[at] = (0, 1, (2, 2))
            self.assert_no_net(2, pipes)


class OwnLists(unittest.TestCase):
    def test_a_list_handed_in_may_be_changed_behind(self):
        handed = [(0, 1, ONE)]
        net = Net(3, handed)
        handed.append((1, 2, ONE))
        handed[0] = (0, 2, ONE)
        self.assertEqual(net.pipes(), [(0, 1, ONE)])
        self.assertEqual(net.parts(), [[0, 1], [2]])

    def test_a_list_handed_in_is_not_changed(self):
        handed = [(1, 0, (3, 2)), (0, 1, ONE)]
        Net(2, handed).parts()
        self.assertEqual(handed, [(1, 0, (3, 2)), (0, 1, ONE)])

    def test_a_list_given_back_may_be_changed(self):
        net = Net(3, [(0, 1, ONE)])
        given = net.pipes()
        given.append((1, 2, ONE))
        given[0] = (0, 2, ONE)
        self.assertEqual(net.pipes(), [(0, 1, ONE)])
        self.assertEqual(net.parts(), [[0, 1], [2]])

    def test_pipes_are_given_back_as_tuples(self):
        given = Net(2, [(0, 1, (3, 2))]).pipes()
        self.assertIs(type(given), list)
        self.assertIs(type(given[0]), tuple)
        self.assertIs(type(given[0][2]), tuple)


class WithPipe(unittest.TestCase):
    def test_the_pipe_put_in_is_the_last(self):
        net = Net(3, [(1, 2, ONE), (0, 1, ONE)])
        wider = with_pipe(net, 2, 0, (1, 3))
        self.assertIsInstance(wider, Net)
        self.assertEqual(wider.size, 3)
        self.assertEqual(wider.pipes(), [(1, 2, ONE), (0, 1, ONE), (2, 0, (1, 3))])

    def test_side_by_side_with_another(self):
        net = Net(2, [(0, 1, ONE)])
        self.assertEqual(with_pipe(net, 0, 1, ONE).pipes(), [(0, 1, ONE)] * 2)

    def test_the_net_handed_in_stays_as_it_was(self):
        net = Net(3, [(0, 1, ONE)])
        wider = with_pipe(net, 1, 2, ONE)
        self.assertEqual(net.size, 3)
        self.assertEqual(net.pipes(), [(0, 1, ONE)])
        self.assertEqual(net.parts(), [[0, 1], [2]])
        self.assertEqual(wider.parts(), [[0, 1, 2]])

    def test_the_28th_pipe_and_the_29th(self):
        net = with_pipe(Net(2, [(0, 1, ONE)] * 27), 1, 0, (2, 1))
        self.assertEqual(net.pipes(), [(0, 1, ONE)] * 27 + [(1, 0, (2, 1))])
        with self.assertRaises(BadNet):
            with_pipe(net, 0, 1, ONE)
        self.assertEqual(len(net.pipes()), 28)

    def test_places_that_are_not_there_are_refused(self):
        net = Net(3, [(0, 1, ONE)])
        for place in NO_PLACES_OF_THREE:
            for one, other in ((place, 2), (2, place)):
                with self.subTest(one=one, other=other), self.assertRaises(BadNet):
                    with_pipe(net, one, other, ONE)
        self.assertEqual(net.pipes(), [(0, 1, ONE)])

    def test_from_a_place_to_itself_is_refused(self):
        net = Net(3, [])
        for place in range(3):
            with self.assertRaises(BadNet):
                with_pipe(net, place, place, ONE)

    def test_wrong_hardnesses_are_refused(self):
        net = Net(2, [])
        for hardness in NO_HARDNESSES:
            with self.subTest(hardness=hardness), self.assertRaises(BadNet):
                with_pipe(net, 0, 1, hardness)


class WithoutPipe(unittest.TestCase):
    def test_each_pipe(self):
        pipes = [(0, 1, ONE), (1, 2, (2, 1)), (0, 1, ONE), (2, 0, (1, 2))]
        for at in range(4):
            less = without_pipe(Net(3, list(pipes)), at)
            self.assertIsInstance(less, Net)
            self.assertEqual(less.size, 3)
            self.assertEqual(less.pipes(), [pipe for number, pipe in enumerate(pipes) if number != at])

    def test_the_net_handed_in_stays_as_it_was(self):
        net = Net(2, [(0, 1, ONE)])
        less = without_pipe(net, 0)
        self.assertEqual(net.pipes(), [(0, 1, ONE)])
        self.assertEqual(net.parts(), [[0, 1]])
        self.assertEqual(less.pipes(), [])
        self.assertEqual(less.parts(), [[0], [1]])

    def test_the_last_of_28_pipes(self):
        net = Net(8, every_two_of_eight())
        self.assertEqual(without_pipe(net, 27).pipes(), every_two_of_eight()[:27])

    def test_pipes_that_are_not_there_are_refused(self):
        net = Net(3, [(0, 1, ONE), (1, 2, ONE)])
        for at in OTHER_KINDS + [-1, -2, 2, 3, 28, 7 ** 900]:
            with self.subTest(at=at), self.assertRaises(NoPipe):
                without_pipe(net, at)
        self.assertEqual(net.pipes(), [(0, 1, ONE), (1, 2, ONE)])

    def test_a_net_of_no_pipe_has_none_to_take(self):
        for at in (0, -1, 1):
            with self.assertRaises(NoPipe):
                without_pipe(Net(2, []), at)


if __name__ == "__main__":
    unittest.main()
