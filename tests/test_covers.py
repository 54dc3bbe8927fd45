import copy
import itertools
import unittest

from samples import (BARE, FULL, GREAT, PAIR, ROUND, WRONG_HOARDS, WRONG_NETS, WRONG_PLACES, Unpleasant, layers,
                     next_hoards, odd_things, plain_sill, some_nets)
from tokenwall.covers import cover, together
from tokenwall.errors import NoHoard, NoNet, NoPlace, TokenError
from tokenwall.nets import behind, is_hoard, over
from tokenwall.sills import least_before, sill

# Tokens are passed on from place to place by either of two moves.
TWIN = (3, (((1, 0, 0), (0, 1, 0)), ((1, 0, 0), (0, 1, 0)), ((0, 1, 0), (0, 0, 1)), ((0, 1, 0), (0, 0, 1))))


def over_one(hoard, wall):
    return any(over(hoard, one) for one in wall)


def fewest(net, start, goal):
    """How many moves a shortest run over the goal has, by a walk over all hoards; None if the sill shows none."""
    if not over_one(start, plain_sill(net, goal)):
        return None
    for count, layer in enumerate(layers(net, start, 100)):
        if any(over(hoard, goal) for hoard in layer):
            return count
    raise RuntimeError("the walk was not long enough")


class Covering(unittest.TestCase):
    def check_run(self, net, start, goal, run, count):
        self.assertIsInstance(run, list)
        self.assertEqual(len(run), count, (net, start, goal))
        self.assertTrue(over(behind(net, start, run), goal), (net, start, goal))

    def check_wall(self, net, start, goal, wall):
        self.assertIsInstance(wall, list)
        self.assertEqual(wall, sorted(wall))
        for one, other in itertools.permutations(wall, 2):
            self.assertFalse(over(one, other))
        self.assertTrue(over_one(goal, wall))
        self.assertFalse(over_one(start, wall))
        for hoard in wall:
            self.assertTrue(is_hoard(net, hoard))
            for move in range(len(net[1])):
                self.assertTrue(over_one(least_before(net, move, hoard), wall))
        self.assertEqual(wall, sill(net, goal))

    def check(self, net, start, goal):
        told = cover(net, start, goal)
        self.assertIsInstance(told, tuple)
        self.assertEqual(len(told), 2)
        count = fewest(net, start, goal)
        self.assertEqual(told[0], "wall" if count is None else "run", (net, start, goal))
        if count is None:
            self.check_wall(net, start, goal, told[1])
        else:
            self.check_run(net, start, goal, told[1], count)


class Cover(Covering):
    def test_runs(self):
        self.assertEqual(cover(PAIR, (2, 0), (3, 0)), ("run", [0, 0, 1]))
        self.assertEqual(cover(PAIR, (0, 2), (3, 0)), ("run", [1]))
        self.assertEqual(cover(PAIR, (1, 0), (0, 1)), ("run", [0]))
        self.assertEqual(cover((1, (((1,), (2,)),)), (1,), (4,)), ("run", [0, 0, 0]))
        self.assertEqual(cover((1, (((1,), (2,)), ((2,), (4,)))), (1,), (6,)), ("run", [0, 1, 1]))

    def test_walls(self):
        self.assertEqual(cover(PAIR, (1, 0), (2, 0)), ("wall", [(0, 2), (1, 1), (2, 0)]))
        self.assertEqual(cover((1, (((1,), (2,)),)), (0,), (4,)), ("wall", [(1,)]))
        self.assertEqual(cover((2, (((1, 0), (0, 1)),)), (1, 1), (0, 3)), ("wall", [(0, 3), (1, 2), (2, 1), (3, 0)]))
        self.assertEqual(cover((2, (((1, 0), (0, 1)),)), (0, 9), (1, 0)), ("wall", [(1, 0)]))

    def test_a_goal_of_noughts(self):
        for net in [PAIR, BARE, FULL, ROUND] + some_nets(20, 20, 6, 10, 9):
            for number in (0, 1, GREAT):
                self.assertEqual(cover(net, (number,) * net[0], (0,) * net[0]), ("run", []))

    def test_a_start_that_is_over_the_goal(self):
        for net in [PAIR, BARE, FULL, ROUND] + some_nets(21, 20, 6, 10, 9):
            for goal in ((3, 0, 2, 1, 7, 5), (0, 0, 0, 0, 0, 1), (40, 40, 40, 40, 40, 40), (GREAT,) * 6):
                goal = goal[:net[0]]
                self.assertEqual(cover(net, goal, goal), ("run", []))
                self.assertEqual(cover(net, tuple(number + 1 for number in goal), goal), ("run", []))

    def test_a_net_without_moves(self):
        self.assertEqual(cover(BARE, (3,), (4,)), ("wall", [(4,)]))
        self.assertEqual(cover(BARE, (4,), (4,)), ("run", []))
        self.assertEqual(cover((6, ()), (9, 9, 9, 9, 9, 0), (0, 0, 0, 0, 0, 1)), ("wall", [(0, 0, 0, 0, 0, 1)]))

    def test_a_start_from_which_nothing_can_be_made(self):
        self.check(PAIR, (0, 0), (1, 0))
        self.check(PAIR, (0, 1), (0, 2))
        self.check(FULL, (8, 0, 5, 5, 5, 5), (0, 1, 0, 0, 0, 0))
        self.check(ROUND, (0, 0, 0, 0, 0, 0), (0, 0, 0, 0, 1, 1))

    def test_a_move_that_changes_nothing(self):
        still = (2, (((1, 1), (1, 1)), ((0, 0), (0, 0))))
        self.assertEqual(cover(still, (5, 5), (5, 6)), ("wall", [(5, 6)]))
        self.assertEqual(cover(still, (5, 6), (5, 6)), ("run", []))
        self.assertEqual(cover((1, (((0,), (0,)), ((0,), (1,)))), (0,), (2,)), ("run", [1, 1]))

    def test_a_move_that_takes_nothing_and_gives_something(self):
        self.assertEqual(cover((2, (((0, 0), (0, 2)),)), (1, 0), (1, 5)), ("run", [0, 0, 0]))
        self.assertEqual(cover((2, (((0, 0), (0, 2)),)), (1, 0), (2, 5)), ("wall", [(2, 0)]))

    def test_six_places_and_ten_moves(self):
        told = cover(FULL, (18, 0, 0, 0, 0, 0), (0, 18, 0, 0, 0, 0))
        self.assertEqual(told[0], "run")
        self.check_run(FULL, (18, 0, 0, 0, 0, 0), (0, 18, 0, 0, 0, 0), told[1], 2)
        self.check(FULL, (17, 0, 0, 0, 0, 0), (0, 18, 0, 0, 0, 0))
        self.check(ROUND, (3, 0, 0, 0, 0, 0), (0, 1, 1, 0, 0, 1))
        self.check(ROUND, (2, 0, 0, 0, 0, 0), (0, 1, 1, 0, 0, 1))

    def test_several_shortest_runs(self):
        for start, goal in (((1, 0, 0), (0, 0, 1)), ((2, 0, 0), (0, 1, 1)), ((3, 0, 0), (0, 0, 3))):
            self.check(TWIN, start, goal)
            self.check(TWIN, start, goal[:2] + (goal[2] + 1,))

    def test_a_short_run_is_told_where_a_long_one_is_found_first(self):
        net = (3, (((1, 0, 0), (0, 1, 0)), ((0, 1, 0), (0, 2, 0)), ((1, 0, 0), (0, 0, 5)), ((0, 0, 1), (0, 1, 0))))
        self.check(net, (1, 0, 0), (0, 3, 0))
        self.check(net, (1, 0, 0), (0, 2, 0))
        self.check(net, (1, 0, 0), (0, 9, 0))

    def test_some_nets(self):
        goals = ((2, 1, 3), (0, 5, 0), (4, 0, 2))
        for net in some_nets(22, 150, 3, 4, 3):
            for start, goal in itertools.product(((0, 0, 0), (1, 0, 2), (2, 3, 0), (3, 3, 3)), goals):
                self.check(net, start[:net[0]], goal[:net[0]])

    def test_some_greater_nets(self):
        for net in some_nets(23, 60, 6, 10, 2):
            for start in ((1, 0, 1, 0, 0, 1), (0, 0, 0, 0, 2, 0)):
                self.check(net, start[:net[0]], (1, 1, 0, 2, 0, 1)[:net[0]])

    def test_some_nets_with_greater_numbers(self):
        for net in some_nets(24, 60, 2, 4, 9):
            for start in ((9, 4), (0, 12), (20, 0)):
                self.check(net, start[:net[0]], (25, 14)[:net[0]])

    def test_no_move_leads_into_the_wall(self):
        for net in some_nets(25, 80, 2, 4, 3):
            told = cover(net, (0, 1)[:net[0]], (3, 2)[:net[0]])
            if told[0] == "wall":
                for hoard in itertools.product(range(8), repeat=net[0]):
                    if any(over_one(other, told[1]) for other in next_hoards(net, hoard).values()):
                        self.assertTrue(over_one(hoard, told[1]))

    def test_very_great_numbers(self):
        self.assertEqual(cover(PAIR, (GREAT, 0), (GREAT - 2, 2)), ("run", [0, 0]))
        self.assertEqual(cover(PAIR, (1, 0), (GREAT, GREAT)), ("wall", [(0, 2), (1, 1), (2, 0)]))
        self.assertEqual(cover((1, (((1,), (2,)),)), (GREAT,), (GREAT + 2,)), ("run", [0, 0]))
        self.assertEqual(cover((1, (((1,), (0,)),)), (GREAT,), (GREAT + 1,)), ("wall", [(GREAT + 1,)]))
        self.check_run(ROUND, (GREAT,) * 6, (GREAT, GREAT - 1, GREAT, GREAT + 1, GREAT, GREAT),
                       cover(ROUND, (GREAT,) * 6, (GREAT, GREAT - 1, GREAT, GREAT + 1, GREAT, GREAT))[1], 2)

    def test_long_runs(self):
        self.assertEqual(cover((1, (((1,), (2,)),)), (1,), (5001,)), ("run", [0] * 5000))
        told = cover(PAIR, (2, 0), (40, 40))
        self.assertEqual(told[0], "run")
        self.assertEqual(behind(PAIR, (2, 0), told[1]), (40, 40))

    def test_a_near_goal_with_a_great_sill(self):
        goal = (20, 20, 20, 20, 20, 21)
        self.assertEqual(cover(ROUND, (20, 20, 20, 20, 21, 20), goal), ("run", [4]))

    def test_what_can_be_made_at_the_lower_can_be_made_at_the_greater(self):
        for net in some_nets(26, 60, 3, 4, 3):
            start, goal = (2, 1, 1)[:net[0]], (3, 2, 1)[:net[0]]
            told = cover(net, start, goal)
            for more in itertools.product((0, 1, 5), repeat=net[0]):
                greater = tuple(a + b for a, b in zip(start, more))
                if told[0] == "run":
                    self.assertTrue(over(behind(net, greater, told[1]), goal))
                    self.assertLessEqual(len(cover(net, greater, goal)[1]), len(told[1]))

    def test_from_each_hoard_of_the_sill_and_from_none_below(self):
        for net in some_nets(27, 60, 3, 4, 3):
            goal = (3, 2, 1)[:net[0]]
            for hoard in sill(net, goal):
                told = cover(net, hoard, goal)
                self.assertEqual(told[0], "run")
                self.assertTrue(over(behind(net, hoard, told[1]), goal))
                for place in range(net[0]):
                    if hoard[place] > 0:
                        less = hoard[:place] + (hoard[place] - 1,) + hoard[place + 1:]
                        self.assertEqual(cover(net, less, goal), ("wall", sill(net, goal)))

    def test_no_hoard(self):
        for thing in WRONG_HOARDS + odd_things():
            for start, goal in ((thing, (0, 0)), ((0, 0), thing), (thing, thing), ((5, 5), thing), (thing, (5, 5))):
                with self.assertRaises(NoHoard):
                    cover(PAIR, start, goal)
        with self.assertRaises(NoHoard):
            cover(BARE, (0, 0), (0,))
        with self.assertRaises(NoHoard):
            cover(FULL, (0,) * 6, (0,) * 5)

    def test_no_net(self):
        for net in WRONG_NETS:
            for start in ((0, 0), None):
                with self.assertRaises(NoNet):
                    cover(net, start, (0, 0))

    def test_nothing_is_changed(self):
        for start, goal in (((2, 0), (9, 9)), ((1, 0), (9, 9)), ([2, 0], (9, 9)), ((2, 0), [9, 9])):
            net = copy.deepcopy(PAIR)
            kept = copy.deepcopy((net, start, goal))
            try:
                cover(net, start, goal)
            except TokenError:
                pass
            self.assertEqual((net, start, goal), kept)

    def test_new_lists_and_equal_answers_each_time(self):
        for start in ((2, 0), (1, 0)):
            first = cover(PAIR, start, (5, 1))
            kept = copy.deepcopy(first)
            second = cover(copy.deepcopy(PAIR), tuple(list(start)), (5, 1))
            self.assertIsNot(first[1], second[1])
            first[1].clear()
            self.assertEqual(second, kept)
            self.assertEqual(cover(PAIR, start, (5, 1)), kept)
        empty = cover(BARE, (1,), (0,))
        empty[1].append(0)
        self.assertEqual(cover(BARE, (1,), (0,)), ("run", []))


class Together(unittest.TestCase):
    def test_full_together(self):
        net = (3, (((1, 0, 0), (0, 1, 0)), ((0, 1, 0), (0, 0, 1))))
        for start, places, told in (((1, 0, 0), [0], True), ((1, 0, 0), [1], True), ((1, 0, 0), [2], True),
                                    ((1, 0, 0), [0, 1], False), ((2, 0, 0), [0, 1], True), ((2, 0, 0), [2, 0], True),
                                    ((2, 0, 0), [0, 1, 2], False), ((3, 0, 0), [2, 1, 0], True),
                                    ((0, 1, 0), [0], False), ((0, 5, 5), [1, 2], True)):
            self.assertIs(together(net, start, places), told, (start, places))

    def test_no_places(self):
        for net in [PAIR, BARE, FULL, ROUND]:
            self.assertIs(together(net, (0,) * net[0], []), True)
            self.assertIs(together(net, (GREAT,) * net[0], []), True)

    def test_places_told_twice(self):
        self.assertIs(together(PAIR, (1, 0), [1, 1]), True)
        self.assertIs(together(PAIR, (1, 0), [0, 0, 0]), True)
        self.assertIs(together(PAIR, (1, 0), [1, 0, 1]), False)
        self.assertIs(together(PAIR, (1, 1), [1, 0, 1]), True)

    def test_a_net_without_moves(self):
        self.assertIs(together(BARE, (0,), [0]), False)
        self.assertIs(together(BARE, (1,), [0]), True)
        self.assertIs(together((6, ()), (1, 0, 1, 0, 1, 1), [5, 0, 2, 4]), True)
        self.assertIs(together((6, ()), (1, 0, 1, 0, 1, 1), [5, 0, 1]), False)

    def test_six_places(self):
        every = [0, 1, 2, 3, 4, 5]
        self.assertIs(together(ROUND, (6, 0, 0, 0, 0, 0), every), True)
        self.assertIs(together(ROUND, (5, 0, 0, 0, 0, 0), every), False)
        self.assertIs(together(ROUND, (0, 0, 0, 0, 0, GREAT), every), True)
        self.assertIs(together(FULL, (9, 0, 0, 0, 0, 0), [1]), True)
        self.assertIs(together(FULL, (8, 0, 0, 0, 0, 0), [1]), False)

    def test_where_hoards_have_no_end(self):
        heaping = (3, (((1, 0, 0), (1, 1, 0)), ((1, 9, 0), (0, 0, 1))))
        self.assertIs(together(heaping, (1, 0, 0), [0, 1]), True)
        self.assertIs(together(heaping, (1, 0, 0), [1, 2]), True)
        self.assertIs(together(heaping, (1, 0, 0), [0, 2]), False)
        self.assertIs(together(heaping, (2, 0, 0), [0, 2]), True)
        self.assertIs(together(heaping, (0, 9, 0), [2]), False)

    def test_a_place_that_is_long_in_coming(self):
        chain = (5, (((9, 0, 0, 0, 0), (0, 1, 0, 0, 0)), ((0, 9, 0, 0, 0), (0, 0, 1, 0, 0)),
                     ((0, 0, 9, 0, 0), (0, 0, 0, 1, 0)), ((0, 0, 0, 9, 0), (0, 0, 0, 0, 1))))
        self.assertIs(together(chain, (0, 81, 0, 0, 0), [3]), True)
        self.assertIs(together(chain, (0, 80, 0, 0, 0), [3]), False)
        self.assertIs(together(chain, (8, 8, 8, 8, 0), [4]), False)
        self.assertIs(together(chain, (0, 0, 80, 0, 0), [4]), False)
        self.assertIs(together(chain, (9, 8, 8, 8, 0), [4]), True)

    def test_it_is_what_a_walk_or_the_plain_sill_tells(self):
        for net in some_nets(28, 150, 3, 4, 3):
            for start in ((0, 0, 0), (1, 0, 2), (2, 3, 0)):
                for count in range(net[0] + 1):
                    for places in itertools.permutations(range(net[0]), count):
                        goal = tuple(int(place in places) for place in range(net[0]))
                        told = fewest(net, start[:net[0]], goal) is not None
                        self.assertIs(together(net, start[:net[0]], list(places)), told)

    def test_no_hoard(self):
        for thing in WRONG_HOARDS + odd_things():
            with self.assertRaises(NoHoard):
                together(PAIR, thing, [0])

    def test_no_place(self):
        for thing in WRONG_PLACES + odd_things():
            for places in ([thing], [0, thing], [thing, 1], [0, 1, thing, 0]):
                with self.assertRaises(NoPlace):
                    together(PAIR, (1, 0), places)
        for place in (1, -1):
            with self.assertRaises(NoPlace):
                together(BARE, (1,), [place])
        with self.assertRaises(NoPlace):
            together(FULL, (1,) * 6, [6])

    def test_places_are_a_list(self):
        for thing in odd_things() + [0, 1, (0,), (0, 1), "01", {0: 0}, {0}, range(2), iter([0]), Unpleasant()]:
            if thing.__class__ is not list:
                with self.assertRaises(NoPlace):
                    together(PAIR, (1, 0), thing)

    def test_no_hoard_goes_ahead_of_no_place(self):
        for hoard in WRONG_HOARDS:
            for places in (None, (0,), [2], [0, None], [True], 0):
                with self.assertRaises(NoHoard):
                    together(PAIR, hoard, places)

    def test_no_net(self):
        for net in WRONG_NETS:
            for start, places in (((0, 0), [0]), (None, None)):
                with self.assertRaises(NoNet):
                    together(net, start, places)

    def test_nothing_is_changed(self):
        for start, places in (((2, 0), [1, 0, 1]), ((0, 0), [1, 0]), ((2, 0), [7]), ([2, 0], [1])):
            net = copy.deepcopy(PAIR)
            kept = copy.deepcopy((net, start, places))
            try:
                together(net, start, places)
            except TokenError:
                pass
            self.assertEqual((net, start, places), kept)


if __name__ == "__main__":
    unittest.main()
