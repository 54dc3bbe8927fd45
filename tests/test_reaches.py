import copy
import itertools
import unittest

from samples import (BARE, FULL, GREAT, PAIR, ROUND, WRONG_HOARDS, WRONG_NETS, WRONG_PLACES, layers, next_hoards,
                     odd_things, plain_reach, some_nets)
from tokenwall.errors import Endless, NoHoard, NoNet, NoPlace, TokenError
from tokenwall.nets import behind, can, over
from tokenwall.reaches import all_of, how_far, run_to, stuck_hoards

# Tokens are passed on, one by one.
PASSING = (2, (((1, 0), (0, 1)),))

# Each token of place 0 becomes two of place 1.
DOUBLING = (2, (((1, 0), (0, 2)),))

# Three ways to the same hoards, some of them longer.
WAYS = (3, (((1, 0, 0), (0, 1, 0)), ((0, 1, 0), (0, 0, 1)), ((1, 0, 0), (0, 0, 1)), ((1, 0, 0), (0, 0, 1)),
            ((0, 0, 1), (1, 0, 0))))

STARTS = ((0, 0, 0), (1, 0, 2), (2, 3, 0), (0, 4, 1))


def first_runs(net, start):
    """For each hoard that runs lead to its first shortest run; there must be an end of hoards."""
    told = {}
    runs = {(): start}
    while runs:
        further = {}
        for run in sorted(runs):
            told.setdefault(runs[run], list(run))
        for run, hoard in runs.items():
            if told[hoard] == list(run):
                further.update((run + (move,), other) for move, other in next_hoards(net, hoard).items())
        runs = {run: hoard for run, hoard in further.items() if hoard not in told}
    return told


def all_shortest_runs(net, start, goal, most):
    for count in range(most + 1):
        found = []
        for run in itertools.product(range(len(net[1])), repeat=count):
            try:
                if behind(net, start, list(run)) == goal:
                    found.append(list(run))
            except TokenError:
                pass
        if found:
            return found
    return []


class Reaching(unittest.TestCase):
    def check_pump(self, net, start, told):
        self.assertIsInstance(told, tuple)
        self.assertEqual(len(told), 3)
        self.assertIsInstance(told[1], list)
        self.assertIsInstance(told[2], list)
        self.assertGreaterEqual(len(told[2]), 1)
        low = behind(net, start, told[1])
        high = behind(net, low, told[2])
        self.assertTrue(over(high, low), (net, start))
        self.assertNotEqual(high, low, (net, start))
        self.assertEqual(behind(net, start, told[1] + told[2] * 4),
                         tuple(a + 4 * (b - a) for a, b in zip(low, high)))

    def check(self, net, start):
        told = all_of(net, start)
        found = plain_reach(net, start)
        if found is None:
            self.assertEqual(told[0], "pump", (net, start))
            self.check_pump(net, start, told)
        else:
            self.assertEqual(told, ("all", sorted(found)), (net, start))
            self.assertIsInstance(told[1], list)


class AllOf(Reaching):
    def test_all(self):
        self.assertEqual(all_of(PASSING, (2, 0)), ("all", [(0, 2), (1, 1), (2, 0)]))
        self.assertEqual(all_of(PASSING, (1, 3)), ("all", [(0, 4), (1, 3)]))
        self.assertEqual(all_of(DOUBLING, (2, 1)), ("all", [(0, 5), (1, 3), (2, 1)]))
        self.assertEqual(all_of((1, (((2,), (1,)), ((3,), (0,)))), (6,)), ("all", [(number,) for number in range(7)]))

    def test_pumps(self):
        for net, start in ((PAIR, (2, 0)), (PAIR, (0, 2)), ((1, (((1,), (2,)),)), (1,)), ((1, (((1,), (2,)),)), (9,)),
                           ((2, (((1, 0), (1, 1)),)), (1, 0)), ((2, (((0, 1), (1, 1)), ((1, 0), (0, 1)))), (1, 0))):
            told = all_of(net, start)
            self.assertEqual(told[0], "pump")
            self.check_pump(net, start, told)

    def test_a_ring_that_comes_back_is_no_pump(self):
        self.assertEqual(all_of((2, (((1, 0), (0, 1)), ((0, 1), (1, 0)))), (1, 1)), ("all", [(0, 2), (1, 1), (2, 0)]))
        self.assertEqual(all_of((2, (((1, 0), (0, 2)), ((0, 2), (1, 0)))), (1, 1)), ("all", [(0, 3), (1, 1)]))

    def test_a_hoard_over_one_that_is_not_on_the_way_is_no_pump(self):
        net = (2, (((2, 0), (1, 0)), ((2, 0), (1, 1))))
        self.assertEqual(all_of(net, (2, 0)), ("all", [(1, 0), (1, 1), (2, 0)]))

    def test_a_net_without_moves(self):
        for start in ((0,), (7,), (GREAT,)):
            self.assertEqual(all_of(BARE, start), ("all", [start]))
        self.assertEqual(all_of((6, ()), (0, 1, 2, 3, 4, GREAT)), ("all", [(0, 1, 2, 3, 4, GREAT)]))

    def test_a_start_from_which_nothing_can_be_made(self):
        self.assertEqual(all_of(PAIR, (0, 1)), ("all", [(0, 1)]))
        self.assertEqual(all_of(PAIR, (0, 0)), ("all", [(0, 0)]))
        self.assertEqual(all_of(FULL, (8, GREAT, 0, 0, 0, 0)), ("all", [(8, GREAT, 0, 0, 0, 0)]))

    def test_a_move_that_changes_nothing(self):
        self.assertEqual(all_of((1, (((0,), (0,)), ((3,), (3,)))), (4,)), ("all", [(4,)]))
        self.assertEqual(all_of((1, (((0,), (0,)), ((3,), (2,)))), (4,)), ("all", [(2,), (3,), (4,)]))

    def test_a_move_that_takes_nothing_and_gives_something(self):
        for start in ((0, 0), (3, GREAT)):
            net = (2, (((0, 0), (0, 1)),))
            told = all_of(net, start)
            self.assertEqual(told[0], "pump")
            self.check_pump(net, start, told)

    def test_six_places_and_ten_moves(self):
        self.assertEqual(all_of(FULL, (18, 0, 0, 0, 0, 1)),
                         ("all", [(0, 18, 0, 0, 0, 1), (9, 9, 0, 0, 0, 1), (18, 0, 0, 0, 0, 1)]))
        spread = [hoard for hoard in itertools.product(range(5), repeat=6) if sum(hoard) == 4]
        self.assertEqual(all_of(ROUND, (4, 0, 0, 0, 0, 0)), ("all", spread))

    def test_they_rise_as_tuples(self):
        self.assertEqual(all_of(PASSING, (12, 0)), ("all", [(number, 12 - number) for number in range(13)]))

    def test_some_nets(self):
        for net in some_nets(40, 250, 3, 4, 3):
            for start in STARTS:
                self.check(net, start[:net[0]])

    def test_some_greater_nets(self):
        for net in some_nets(41, 80, 6, 10, 2):
            for start in ((1, 0, 1, 0, 0, 1), (0, 2, 0, 1, 0, 0)):
                self.check(net, start[:net[0]])

    def test_some_nets_with_greater_numbers(self):
        for net in some_nets(42, 80, 3, 5, 9):
            for start in ((9, 4, 3), (0, 12, 9)):
                self.check(net, start[:net[0]])

    def test_very_great_starts_with_a_pump(self):
        for net in (PAIR, (2, (((1, 0), (0, 9)), ((0, 1), (0, 0)), ((0, 5), (1, 0)))),
                    (2, (((9, 0), (0, 8)), ((0, 7), (8, 0)), ((1, 1), (0, 0)), ((2, 0), (0, 0)), ((0, 3), (0, 0))))):
            told = all_of(net, (GREAT, GREAT))
            self.assertEqual(told[0], "pump")
            self.check_pump(net, (GREAT, GREAT), told)

    def test_a_very_great_start_with_a_long_ring_among_ten_moves(self):
        net = (6, (((8, 8, 0, 0, 0, 0), (5, 0, 2, 0, 0, 0)), ((2, 0, 8, 4, 0, 6), (0, 2, 7, 5, 0, 4)),
                   ((5, 7, 3, 0, 0, 6), (0, 0, 2, 8, 8, 0)), ((1, 5, 0, 4, 0, 7), (0, 9, 9, 0, 3, 0)),
                   ((0, 9, 0, 1, 0, 2), (0, 0, 0, 0, 5, 7)), ((0, 2, 0, 8, 4, 5), (0, 0, 0, 0, 0, 6)),
                   ((4, 0, 0, 0, 3, 0), (0, 4, 0, 0, 0, 0)), ((0, 6, 0, 1, 0, 0), (9, 3, 5, 0, 0, 0)),
                   ((8, 5, 7, 0, 4, 7), (9, 0, 7, 3, 5, 0)), ((3, 3, 9, 0, 2, 8), (5, 4, 0, 6, 9, 0))))
        told = all_of(net, (GREAT,) * 6)
        self.assertEqual(told[0], "pump")
        self.check_pump(net, (GREAT,) * 6, told)

    def test_a_short_pump_far_from_a_very_great_start(self):
        passing = ROUND[1][:4] + (((0, 0, 0, 0, 1, 0), (1, 0, 0, 0, 0, 0)),)
        net = (6, passing + (((9, 9, 9, 9, 9, 0), (0, 0, 0, 0, 0, 1)), ((0, 0, 0, 0, 0, 1), (0, 0, 0, 0, 0, 2))))
        start = (GREAT,) * 5 + (0,)
        told = all_of(net, start)
        self.assertEqual(told[0], "pump")
        self.check_pump(net, start, told)

    def test_long_ways_with_an_end(self):
        self.assertEqual(all_of((1, (((1,), (0,)),)), (20000,)), ("all", [(number,) for number in range(20001)]))
        self.assertEqual(len(all_of(DOUBLING, (20000, 0))[1]), 20001)
        self.assertEqual(len(all_of(ROUND, (10, 0, 0, 0, 0, 0))[1]), 3003)

    def test_no_hoard(self):
        for thing in WRONG_HOARDS + odd_things():
            with self.assertRaises(NoHoard):
                all_of(PAIR, thing)

    def test_no_net(self):
        for net in WRONG_NETS:
            for start in ((0, 0), None):
                with self.assertRaises(NoNet):
                    all_of(net, start)

    def test_nothing_is_changed(self):
        for start in ((2, 0), (1, 0), [2, 0]):
            net = copy.deepcopy(PAIR)
            kept = copy.deepcopy((net, start))
            try:
                all_of(net, start)
            except TokenError:
                pass
            self.assertEqual((net, start), kept)

    def test_new_lists_and_equal_answers_each_time(self):
        for net, start in ((PAIR, (2, 0)), (PAIR, (2, 2)), (PASSING, (3, 0)), (BARE, (1,))):
            first = all_of(net, start)
            kept = copy.deepcopy(first)
            second = all_of(copy.deepcopy(net), tuple(list(start)))
            for one, other in zip(first[1:], second[1:]):
                self.assertIsNot(one, other)
                one.append(None)
            self.assertEqual(second, kept)
            self.assertEqual(all_of(net, start), kept)


class HowFar(unittest.TestCase):
    def test_how_far(self):
        self.assertEqual([how_far(DOUBLING, (3, 1), place) for place in (0, 1)], [3, 7])
        self.assertEqual([how_far(PASSING, (0, 4), place) for place in (0, 1)], [0, 4])
        self.assertEqual([how_far(PAIR, (1, 0), place) for place in (0, 1)], [1, 1])
        self.assertEqual([how_far(ROUND, (2, 0, 1, 0, 0, 0), place) for place in range(6)], [3] * 6)

    def test_edges(self):
        self.assertEqual(how_far(BARE, (GREAT,), 0), GREAT)
        self.assertEqual(how_far(BARE, (0,), 0), 0)
        self.assertEqual(how_far((1, (((0,), (0,)),)), (4,), 0), 4)
        self.assertEqual(how_far(FULL, (18, 0, 0, 0, 0, 5), 1), 18)
        self.assertEqual(how_far(FULL, (18, 0, 0, 0, 0, 5), 5), 5)

    def test_it_is_the_greatest_number_of_all(self):
        for net in some_nets(43, 150, 3, 4, 3):
            for start in STARTS:
                found = plain_reach(net, start[:net[0]])
                for place in range(net[0]):
                    if found is not None:
                        told = how_far(net, start[:net[0]], place)
                        self.assertEqual(told, max(hoard[place] for hoard in found))
                    else:
                        with self.assertRaises(Endless):
                            how_far(net, start[:net[0]], place)

    def test_endless_though_this_place_is_not(self):
        with self.assertRaises(Endless):
            how_far((2, (((0, 0), (0, 1)),)), (3, 0), 0)

    def test_no_hoard(self):
        for thing in WRONG_HOARDS + odd_things():
            with self.assertRaises(NoHoard):
                how_far(PAIR, thing, 0)

    def test_no_place(self):
        for thing in WRONG_PLACES + odd_things():
            with self.assertRaises(NoPlace):
                how_far(PAIR, (1, 0), thing)
        with self.assertRaises(NoPlace):
            how_far(BARE, (1,), 1)

    def test_which_is_named_first(self):
        for hoard, place in itertools.product(WRONG_HOARDS, WRONG_PLACES):
            with self.assertRaises(NoHoard):
                how_far(PAIR, hoard, place)
        for place in WRONG_PLACES:
            with self.assertRaises(NoPlace):
                how_far(PAIR, (2, 0), place)

    def test_no_net(self):
        for net in WRONG_NETS:
            for start, place in (((0, 0), 0), (None, None)):
                with self.assertRaises(NoNet):
                    how_far(net, start, place)

    def test_nothing_is_changed(self):
        net, start = copy.deepcopy((DOUBLING, (3, 1)))
        self.assertEqual(how_far(net, start, 1), how_far(net, start, 1))
        self.assertEqual((net, start), (DOUBLING, (3, 1)))


class RunTo(unittest.TestCase):
    def test_runs(self):
        self.assertEqual(run_to(PASSING, (2, 0), (0, 2)), [0, 0])
        self.assertEqual(run_to(PASSING, (2, 0), (1, 1)), [0])
        self.assertEqual(run_to(PASSING, (2, 0), (2, 0)), [])
        self.assertIsNone(run_to(PASSING, (2, 0), (2, 1)))
        self.assertIsNone(run_to(PASSING, (2, 0), (0, 1)))
        self.assertIsNone(run_to(PASSING, (0, 2), (1, 1)))

    def test_the_hoard_itself_and_not_one_over_it(self):
        self.assertIsNone(run_to(DOUBLING, (2, 0), (0, 3)))
        self.assertEqual(run_to(DOUBLING, (2, 0), (0, 4)), [0, 0])

    def test_the_shortest_and_of_such_the_first(self):
        self.assertEqual(run_to(WAYS, (1, 0, 0), (0, 0, 1)), [2])
        self.assertEqual(run_to(WAYS, (2, 0, 0), (0, 0, 2)), [2, 2])
        self.assertEqual(run_to(WAYS, (2, 0, 0), (0, 1, 1)), [0, 2])
        self.assertEqual(run_to(WAYS, (2, 1, 0), (0, 1, 2)), [2, 2])
        self.assertEqual(run_to(WAYS, (0, 0, 2), (0, 2, 0)), [4, 0, 4, 0])
        self.assertEqual(run_to((2, (((0, 1), (0, 0)), ((1, 0), (0, 1)), ((1, 0), (0, 0)))), (1, 1), (0, 0)), [0, 2])

    def test_of_all_shortest_runs_it_is_the_first(self):
        for start in ((1, 0, 0), (2, 0, 0), (1, 1, 0), (0, 1, 1)):
            for goal in plain_reach(WAYS, start):
                found = all_shortest_runs(WAYS, start, goal, 5)
                self.assertEqual(run_to(WAYS, start, goal), min(found), (start, goal))

    def test_no_shorter_one_leads_there(self):
        for net in some_nets(44, 120, 3, 4, 3):
            for start in STARTS:
                start = start[:net[0]]
                if plain_reach(net, start) is not None:
                    for count, layer in enumerate(layers(net, start, 10)):
                        for goal in layer:
                            told = run_to(net, start, goal)
                            self.assertEqual(len(told), count)
                            self.assertEqual(behind(net, start, told), goal)

    def test_some_nets(self):
        for net in some_nets(45, 150, 3, 5, 3):
            for start in STARTS:
                start = start[:net[0]]
                if plain_reach(net, start) is None:
                    for goal in (start, (0,) * net[0], (7,) * net[0]):
                        with self.assertRaises(Endless):
                            run_to(net, start, goal)
                else:
                    told = first_runs(net, start)
                    for goal in list(told) + list(itertools.product(range(3), repeat=net[0])):
                        self.assertEqual(run_to(net, start, goal), told.get(goal), (net, start, goal))

    def test_edges(self):
        self.assertEqual(run_to(BARE, (GREAT,), (GREAT,)), [])
        self.assertIsNone(run_to(BARE, (GREAT,), (GREAT - 1,)))
        self.assertEqual(run_to((1, (((0,), (0,)),)), (4,), (4,)), [])
        self.assertEqual(run_to(FULL, (18, 0, 0, 0, 0, 5), (0, 18, 0, 0, 0, 5)), [0, 0])
        self.assertEqual(run_to(ROUND, (1, 0, 0, 0, 0, 0), (0, 0, 0, 0, 0, 1)), [0, 1, 2, 3, 4])

    def test_no_hoard(self):
        for thing in WRONG_HOARDS + odd_things():
            for start, goal in ((thing, (0, 0)), ((1, 0), thing), (thing, thing)):
                with self.assertRaises(NoHoard):
                    run_to(PAIR, start, goal)

    def test_no_hoard_of_the_goal_goes_ahead_of_endless(self):
        for thing in WRONG_HOARDS:
            with self.assertRaises(NoHoard):
                run_to(PAIR, (2, 0), thing)

    def test_no_net(self):
        for net in WRONG_NETS:
            for start, goal in (((0, 0), (0, 0)), (None, None)):
                with self.assertRaises(NoNet):
                    run_to(net, start, goal)

    def test_new_lists_and_nothing_changed(self):
        for start, goal in (((2, 0, 0), (0, 1, 1)), ((1, 0, 0), (1, 0, 0))):
            net = copy.deepcopy(WAYS)
            first = run_to(net, start, goal)
            kept = list(first)
            second = run_to(net, start, goal)
            self.assertIsNot(first, second)
            first.append(0)
            self.assertEqual(second, kept)
            self.assertEqual(run_to(WAYS, start, goal), kept)
            self.assertEqual(net, WAYS)


class StuckHoards(unittest.TestCase):
    def test_stuck_hoards(self):
        self.assertEqual(stuck_hoards(PASSING, (2, 1)), [(0, 3)])
        self.assertEqual(stuck_hoards((2, (((2, 0), (0, 1)), ((3, 0), (0, 0)))), (5, 0)), [(0, 1), (1, 2)])
        self.assertEqual(stuck_hoards(ROUND, (1, 0, 0, 0, 0, 0)), [])
        self.assertEqual(stuck_hoards(PAIR, (1, 0)), [(0, 1)])

    def test_edges(self):
        self.assertEqual(stuck_hoards(BARE, (GREAT,)), [(GREAT,)])
        self.assertEqual(stuck_hoards((6, ()), (0,) * 6), [(0,) * 6])
        self.assertEqual(stuck_hoards(PAIR, (0, 0)), [(0, 0)])
        self.assertEqual(stuck_hoards(FULL, (26, 0, 0, 0, 0, 5)), [(8, 18, 0, 0, 0, 5)])

    def test_a_move_that_changes_nothing_can_be_made_all_the_same(self):
        self.assertEqual(stuck_hoards((1, (((0,), (0,)),)), (4,)), [])
        self.assertEqual(stuck_hoards((1, (((2,), (2,)), ((3,), (0,)))), (6,)), [(0,)])
        self.assertEqual(stuck_hoards((1, (((2,), (2,)), ((3,), (0,)))), (5,)), [])

    def test_they_are_those_of_all_at_which_no_move_can_be_made(self):
        for net in some_nets(46, 200, 3, 4, 3):
            for start in STARTS:
                start = start[:net[0]]
                found = plain_reach(net, start)
                if found is None:
                    with self.assertRaises(Endless):
                        stuck_hoards(net, start)
                else:
                    told = stuck_hoards(net, start)
                    self.assertEqual(told, sorted(hoard for hoard in found if not next_hoards(net, hoard)))
                    for hoard in told:
                        self.assertFalse(any(can(net, hoard, move) for move in range(len(net[1]))))

    def test_no_hoard(self):
        for thing in WRONG_HOARDS + odd_things():
            with self.assertRaises(NoHoard):
                stuck_hoards(PAIR, thing)

    def test_no_net(self):
        for net in WRONG_NETS:
            for start in ((0, 0), None):
                with self.assertRaises(NoNet):
                    stuck_hoards(net, start)

    def test_new_lists_and_nothing_changed(self):
        net = copy.deepcopy(PASSING)
        first = stuck_hoards(net, (2, 1))
        self.assertIsInstance(first, list)
        second = stuck_hoards(net, (2, 1))
        self.assertIsNot(first, second)
        first.clear()
        self.assertEqual(second, [(0, 3)])
        self.assertEqual(stuck_hoards(net, (2, 1)), [(0, 3)])
        self.assertEqual(net, PASSING)


if __name__ == "__main__":
    unittest.main()
