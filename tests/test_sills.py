import copy
import itertools
import unittest

from samples import BARE, FULL, GREAT, PAIR, odd_things, plain_sill, some_nets
from tokenwall.errors import NoHoard, NoMove, NoNet
from tokenwall.nets import behind, can, over
from tokenwall.sills import least_before, sill

WRONG_GOALS = [None, True, 0, "00", [], [0, 0], (), (0,), (0, 0, 0), (-1, 0), (0, -1), (True, 0), (0, False), (0, None)]
WRONG_MOVES = [None, True, False, -1, 2, 10, GREAT, "0", 0.0, (0,), [0]]


def comes_over(net, start, goal, steps):
    """Whether a run of at most so many moves leads from the start over the goal."""
    layer = {start}
    for step in range(steps):
        if any(over(hoard, goal) for hoard in layer):
            return True
        layer = {behind(net, hoard, [move])
                 for hoard in layer for move in range(len(net[1])) if can(net, hoard, move)}
    return any(over(hoard, goal) for hoard in layer)


class LeastBefore(unittest.TestCase):
    def test_what_it_takes_and_what_the_goal_lacks(self):
        self.assertEqual(least_before(PAIR, 0, (0, 1)), (1, 0))
        self.assertEqual(least_before(PAIR, 0, (0, 0)), (1, 0))
        self.assertEqual(least_before(PAIR, 0, (2, 5)), (3, 4))
        self.assertEqual(least_before(PAIR, 1, (2, 1)), (0, 3))
        self.assertEqual(least_before(PAIR, 1, (5, 0)), (2, 2))

    def test_a_place_that_is_taken_from_and_given_to(self):
        net = (1, (((2,), (5,)), ((5,), (2,)), ((4,), (4,))))
        for goal, told in ((0, (2, 5, 4)), (4, (2, 7, 4)), (5, (2, 8, 5)), (6, (3, 9, 6))):
            self.assertEqual(tuple(least_before(net, move, (goal,))[0] for move in range(3)), told)

    def test_edges(self):
        self.assertEqual(least_before(FULL, 9, (0, 0, 0, 0, 0, 0)), (9, 0, 0, 0, 0, 0))
        self.assertEqual(least_before(FULL, 9, (0, 10, 0, 0, 0, 7)), (9, 1, 0, 0, 0, 7))
        self.assertEqual(least_before(FULL, 0, (3, 9, 0, 0, 0, 0)), (12, 0, 0, 0, 0, 0))
        self.assertEqual(least_before(PAIR, 0, (GREAT, GREAT)), (GREAT + 1, GREAT - 1))

    def test_it_is_the_least(self):
        for net in some_nets(2, 80, 2, 4, 4):
            hoards = list(itertools.product(range(10), repeat=net[0]))
            for move, goal in itertools.product(range(len(net[1])), ((0,) * net[0], (3,) * net[0], (1, 4)[:net[0]])):
                told = least_before(net, move, goal)
                self.assertIsInstance(told, tuple)
                for hoard in hoards:
                    leads = can(net, hoard, move) and over(behind(net, hoard, [move]), goal)
                    self.assertEqual(leads, over(hoard, told), (net, move, goal, hoard))

    def test_no_move(self):
        for thing in WRONG_MOVES + odd_things():
            with self.assertRaises(NoMove):
                least_before(PAIR, thing, (0, 0))
        with self.assertRaises(NoMove):
            least_before(BARE, 0, (0,))

    def test_no_hoard(self):
        for thing in WRONG_GOALS + odd_things():
            with self.assertRaises(NoHoard):
                least_before(PAIR, 0, thing)

    def test_no_move_is_named_first(self):
        for move in WRONG_MOVES:
            for goal in WRONG_GOALS:
                with self.assertRaises(NoMove):
                    least_before(PAIR, move, goal)

    def test_no_net(self):
        for net in (None, (0, ()), [2, PAIR[1]], (2, list(PAIR[1]))):
            with self.assertRaises(NoNet):
                least_before(net, 0, (0, 0))

    def test_nothing_is_changed(self):
        net, goal = copy.deepcopy((PAIR, (2, 5)))
        self.assertEqual(least_before(net, 0, goal), least_before(net, 0, goal))
        self.assertEqual((net, goal), (PAIR, (2, 5)))


class Sill(unittest.TestCase):
    def test_a_net_without_moves(self):
        for goal in ((0,), (7,), (GREAT,)):
            self.assertEqual(sill(BARE, goal), [goal])
        self.assertEqual(sill((6, ()), (0, 1, 2, 3, 4, GREAT)), [(0, 1, 2, 3, 4, GREAT)])

    def test_a_goal_of_noughts(self):
        for net in [PAIR, BARE, FULL] + some_nets(3, 20, 6, 10, 9):
            self.assertEqual(sill(net, (0,) * net[0]), [(0,) * net[0]])

    def test_tokens_that_are_passed_on(self):
        net = (2, (((1, 0), (0, 1)),))
        self.assertEqual(sill(net, (0, 3)), [(0, 3), (1, 2), (2, 1), (3, 0)])
        self.assertEqual(sill(net, (2, 1)), [(2, 1), (3, 0)])
        self.assertEqual(sill(net, (2, 0)), [(2, 0)])

    def test_tokens_that_are_heaped_up(self):
        self.assertEqual(sill(PAIR, (4, 0)), [(0, 2), (1, 1), (2, 0)])
        self.assertEqual(sill((1, (((1,), (2,)),)), (5,)), [(1,)])
        self.assertEqual(sill((1, (((0,), (1,)),)), (5,)), [(0,)])
        self.assertEqual(sill((1, (((7,), (9,)),)), (5,)), [(5,)])
        self.assertEqual(sill((1, (((5,), (6,)),)), (5,)), [(5,)])
        self.assertEqual(sill((1, (((4,), (5,)),)), (5,)), [(4,)])

    def test_tokens_that_are_used_up(self):
        self.assertEqual(sill((2, (((2, 0), (0, 1)), ((0, 1), (1, 0)))), (0, 1)), [(0, 1), (2, 0)])
        self.assertEqual(sill((2, (((2, 0), (0, 1)), ((0, 1), (1, 0)))), (1, 1)), [(0, 2), (1, 1), (3, 0)])

    def test_a_move_that_gives_nothing_more(self):
        self.assertEqual(sill((2, (((3, 3), (3, 3)), ((1, 9), (0, 9)), ((9, 9), (0, 0)))), (4, 5)), [(4, 5)])

    def test_one_that_needs_another_first(self):
        net = (3, (((1, 0, 0), (0, 1, 0)), ((0, 2, 0), (0, 0, 1))))
        self.assertEqual(sill(net, (0, 0, 1)), [(0, 0, 1), (0, 2, 0), (1, 1, 0), (2, 0, 0)])

    def test_six_places_and_ten_moves(self):
        self.assertEqual(sill(FULL, (0, 9, 0, 0, 0, 1)), [(0, 9, 0, 0, 0, 1), (9, 0, 0, 0, 0, 1)])
        self.assertEqual(sill(FULL, (0, 10, 0, 0, 0, 0)),
                         [(0, 10, 0, 0, 0, 0), (9, 1, 0, 0, 0, 0), (18, 0, 0, 0, 0, 0)])

    def test_very_great_goals(self):
        self.assertEqual(sill((1, (((1,), (2,)),)), (GREAT,)), [(1,)])
        self.assertEqual(sill((1, (((2,), (1,)),)), (GREAT,)), [(GREAT,)])
        self.assertEqual(sill((1, (((7,), (9,)), ((1,), (0,)))), (GREAT,)), [(7,)])
        self.assertEqual(sill((2, (((0, 0), (0, 9)),)), (GREAT, GREAT)), [(GREAT, 0)])
        self.assertEqual(sill((2, (((1, 0), (0, 1)),)), (GREAT, 1)), [(GREAT, 1), (GREAT + 1, 0)])

    def test_very_great_goals_by_rings_within_rings(self):
        self.assertEqual(sill(PAIR, (GREAT, GREAT)), [(0, 2), (1, 1), (2, 0)])
        self.assertEqual(sill((2, (((3, 0), (0, 2)), ((1, 0), (3, 0)))), (3, GREAT)), [(1, 0)])
        self.assertEqual(sill((2, (((0, 0), (0, 1)), ((0, 2), (1, 3)), ((1, 2), (1, 0)))), (GREAT, 0)), [(0, 0)])
        net = (3, (((0, 0, 0), (1, 0, 0)), ((2, 0, 0), (0, 0, 3)), ((0, 0, 2), (0, 1, 0))))
        self.assertEqual(sill(net, (GREAT, GREAT, GREAT)), [(0, 0, 0)])

    def test_a_very_great_goal_that_the_smallest_hoards_lead_astray_from(self):
        net = (3, (((0, 0, 2), (0, 5, 0)), ((0, 7, 0), (3, 0, 8)), ((9, 0, 0), (0, 0, 0)), ((0, 1, 0), (0, 0, 2))))
        self.assertEqual(sill(net, (GREAT, 0, GREAT)), sill(net, (200, 0, 200)))

    def test_it_is_what_the_plain_way_tells(self):
        for net in some_nets(4, 150, 3, 4, 4):
            for goal in ((1, 2, 3)[:net[0]], (4, 0, 1)[:net[0]], (2, 2, 2)[:net[0]]):
                self.assertEqual(sill(net, goal), plain_sill(net, goal), (net, goal))

    def test_it_is_what_the_plain_way_tells_of_greater_nets(self):
        for net in some_nets(5, 25, 6, 10, 2):
            goal = (1, 0, 2, 0, 1, 1)[:net[0]]
            self.assertEqual(sill(net, goal), plain_sill(net, goal), (net, goal))

    def test_it_is_what_the_plain_way_tells_of_greater_goals(self):
        for net in some_nets(6, 60, 2, 4, 9):
            goal = (25, 14)[:net[0]]
            self.assertEqual(sill(net, goal), plain_sill(net, goal), (net, goal))

    def test_it_is_what_the_plain_way_tells_of_sills_with_hundreds_of_hoards(self):
        net = (4, (((1, 0, 0, 0), (0, 1, 0, 0)), ((0, 1, 0, 0), (0, 0, 1, 0)), ((0, 0, 2, 0), (0, 1, 0, 1))))
        told = sill(net, (0, 0, 6, 4))
        self.assertGreater(len(told), 200)
        self.assertEqual(told, plain_sill(net, (0, 0, 6, 4)))

    def test_all_hoards_over_it_come_over_the_goal_and_no_others(self):
        for net in some_nets(7, 60, 2, 3, 2):
            goal = (2, 1)[:net[0]]
            told = sill(net, goal)
            for hoard in itertools.product(range(4), repeat=net[0]):
                above = any(over(hoard, one) for one in told)
                self.assertEqual(comes_over(net, hoard, goal, 9), above, (net, hoard))

    def test_none_is_over_another_and_they_rise(self):
        for net in some_nets(8, 60, 4, 6, 3):
            told = sill(net, (2, 1, 3, 1)[:net[0]])
            self.assertEqual(told, sorted(told))
            for one, other in itertools.permutations(told, 2):
                self.assertFalse(over(one, other))

    def test_they_rise_as_tuples(self):
        told = sill((2, (((1, 0), (0, 1)),)), (0, 12))
        self.assertEqual(told, [(number, 12 - number) for number in range(13)])

    def test_it_is_a_new_list_of_tuples_each_time(self):
        first = sill(PAIR, (4, 0))
        self.assertIsInstance(first, list)
        for hoard in first:
            self.assertIsInstance(hoard, tuple)
        kept = list(first)
        second = sill(PAIR, (4, 0))
        self.assertIsNot(first, second)
        first.clear()
        self.assertEqual(second, kept)
        self.assertEqual(sill(copy.deepcopy(PAIR), (4, 0)), kept)
        bare = sill(BARE, (3,))
        bare.append(None)
        self.assertEqual(sill(BARE, (3,)), [(3,)])

    def test_nothing_is_changed(self):
        net, goal = copy.deepcopy((PAIR, (4, 5)))
        sill(net, goal)
        self.assertEqual((net, goal), (PAIR, (4, 5)))
        wrong = [4, 5]
        with self.assertRaises(NoHoard):
            sill(net, wrong)
        self.assertEqual(wrong, [4, 5])

    def test_no_hoard(self):
        for thing in WRONG_GOALS + odd_things():
            with self.assertRaises(NoHoard):
                sill(PAIR, thing)

    def test_no_net(self):
        for net in (None, (0, ()), [2, PAIR[1]], (2, list(PAIR[1]))):
            with self.assertRaises(NoNet):
                sill(net, (0, 0))


if __name__ == "__main__":
    unittest.main()
