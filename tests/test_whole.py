"""That the points hold together: what one part of the program tells fits what the others tell."""

import itertools
import unittest

from samples import PAIR, ROUND, layers, some_nets
from tokenwall.covers import cover, together
from tokenwall.makes import beside, turned, without_place
from tokenwall.nets import behind, over
from tokenwall.reaches import all_of, how_far, run_to, stuck_hoards
from tokenwall.sills import sill
from tokenwall.stays import greatest_sink, greatest_trap, is_sink, is_trap
from tokenwall.texts import read, shown
from tokenwall.weights import kept_weights, round_counts, weight

STARTS = ((0, 1, 0, 2, 0, 1), (2, 0, 1, 0, 0, 3), (1, 1, 1, 1, 1, 1), (0, 0, 3, 0, 2, 0))
GOALS = ((1, 0, 2, 1, 0, 0), (0, 2, 0, 0, 1, 1), (2, 2, 0, 1, 0, 0))


def empty_places(hoard):
    return [place for place, number in enumerate(hoard) if number == 0]


def some_of_all(net, start):
    """What comes of the start: all, where that has an end, else what short runs lead to."""
    told = all_of(net, start)
    if told[0] == "all":
        return told[1]
    return [hoard for layer in layers(net, start, 4) for hoard in layer]


def pairs(one, other):
    return [first + second for first, second in itertools.product(one, other)]


def two_nets(seed, count, places, moves, most):
    return list(zip(some_nets(seed, count, places, moves, most), some_nets(seed + 1, count, places, moves, most)))


class Staying(unittest.TestCase):
    def test_an_empty_sink_stays_empty(self):
        found = 0
        for net in some_nets(100, 200, 5, 5, 2):
            for start in STARTS:
                start = start[:net[0]]
                sink = greatest_sink(net, empty_places(start))
                found += len(sink)
                for place in sink:
                    self.assertIs(together(net, start, [place]), False, (net, start))
                for hoard in some_of_all(net, start):
                    self.assertEqual([hoard[place] for place in sink], [0] * len(sink))
        self.assertGreater(found, 100)

    def test_a_trap_with_a_token_always_has_one(self):
        found = 0
        for net in some_nets(102, 200, 5, 5, 2):
            for start in STARTS:
                start = start[:net[0]]
                trap = greatest_trap(net, list(range(net[0])))
                if any(start[place] for place in trap):
                    found += 1
                    for hoard in some_of_all(net, start):
                        self.assertTrue(any(hoard[place] for place in trap), (net, start, hoard))
        self.assertGreater(found, 100)

    def test_the_places_of_a_kept_weight_with_no_number_below_nought_are_a_sink_and_a_trap(self):
        for net in some_nets(106, 400, 3, 3, 2):
            for row in kept_weights(net):
                if min(row) >= 0:
                    places = [place for place, number in enumerate(row) if number > 0]
                    self.assertIs(is_sink(net, places), True, (net, row))
                    self.assertIs(is_trap(net, places), True, (net, row))


class Turning(unittest.TestCase):
    def test_runs_lead_back(self):
        for net in some_nets(110, 100, 4, 5, 3):
            for start, goal in itertools.product(STARTS, GOALS):
                told = cover(net, start[:net[0]], goal[:net[0]])
                if told[0] == "run":
                    end = behind(net, start[:net[0]], told[1])
                    self.assertEqual(behind(turned(net), end, told[1][::-1]), start[:net[0]])

    def test_a_hoard_that_is_come_to_leads_back_as_fast(self):
        looked = 0
        for net in some_nets(111, 400, 3, 3, 2):
            start = (2, 1, 1)[:net[0]]
            told = all_of(net, start)
            for hoard in told[1][:20] if told[0] == "all" else []:
                if all_of(turned(net), hoard)[0] == "all":
                    looked += 1
                    self.assertEqual(len(run_to(turned(net), hoard, start)), len(run_to(net, start, hoard)))
        self.assertGreater(looked, 100)

    def test_weights_and_rounds_are_the_same(self):
        for net in some_nets(112, 100, 6, 10, 9):
            self.assertEqual(kept_weights(turned(net)), kept_weights(net))
            self.assertEqual(round_counts(turned(net)), round_counts(net))

    def test_sinks_become_traps(self):
        for net in some_nets(113, 100, 5, 6, 3):
            for places in ([], list(range(net[0])), list(range(0, net[0], 2)), [net[0] - 1]):
                self.assertEqual(greatest_sink(turned(net), places), greatest_trap(net, places))
                self.assertEqual(greatest_trap(turned(net), places), greatest_sink(net, places))
                self.assertEqual(is_sink(turned(net), places), is_trap(net, places))
                self.assertEqual(is_trap(turned(net), places), is_sink(net, places))


class TakingOut(unittest.TestCase):
    def test_runs_can_still_be_made_and_come_over_the_rest(self):
        for net in some_nets(120, 100, 4, 5, 3):
            for start, goal in itertools.product(STARTS, GOALS):
                told = cover(net, start[:net[0]], goal[:net[0]])
                if told[0] == "run" and net[0] > 1:
                    for place in range(net[0]):
                        self.check(net, place, start[:net[0]], goal[:net[0]], told[1])

    def check(self, net, place, start, goal, run):
        less = without_place(net, place)
        start, goal = start[:place] + start[place + 1:], goal[:place] + goal[place + 1:]
        self.assertTrue(over(behind(less, start, run), goal))
        self.assertLessEqual(len(cover(less, start, goal)[1]), len(run))

    def test_a_pump_stays_one_or_comes_to_nothing(self):
        for net in some_nets(121, 100, 4, 5, 3):
            told = all_of(net, (2, 1, 0, 1)[:net[0]])
            if told[0] == "pump" and net[0] > 1:
                for place in range(net[0]):
                    start = (2, 1, 0, 1)[:net[0]]
                    start = start[:place] + start[place + 1:]
                    low = behind(without_place(net, place), start, told[1])
                    self.assertTrue(over(behind(without_place(net, place), start, told[1] + told[2]), low))


class StandingBeside(unittest.TestCase):
    def test_all_that_comes_are_all_pairs(self):
        ended = 0
        for one, other in two_nets(130, 150, 3, 4, 2):
            first, second = (2, 0, 1)[:one[0]], (1, 2, 0)[:other[0]]
            alone = (all_of(one, first), all_of(other, second))
            told = all_of(beside(one, other), first + second)
            self.assertEqual(told[0] == "all", alone[0][0] == "all" and alone[1][0] == "all", (one, other))
            if told[0] == "all":
                ended += 1
                self.assertEqual(told[1], pairs(alone[0][1], alone[1][1]))
                self.assertEqual(stuck_hoards(beside(one, other), first + second),
                                 pairs(stuck_hoards(one, first), stuck_hoards(other, second)))
                self.check_how_far(one, other, first, second)
        self.assertGreater(ended, 30)

    def check_how_far(self, one, other, first, second):
        net = beside(one, other)
        told = [how_far(net, first + second, place) for place in range(net[0])]
        self.assertEqual(told, [how_far(one, first, place) for place in range(one[0])]
                         + [how_far(other, second, place) for place in range(other[0])])

    def test_sills_are_all_pairs(self):
        for one, other in two_nets(132, 100, 3, 4, 3):
            for goal in GOALS:
                first, second = goal[:one[0]], goal[3:3 + other[0]]
                self.assertEqual(sill(beside(one, other), first + second), pairs(sill(one, first), sill(other, second)))

    def test_a_goal_is_come_over_just_where_each_is(self):
        for one, other in two_nets(134, 100, 3, 4, 3):
            for start, goal in itertools.product(STARTS, GOALS):
                first = cover(one, start[:one[0]], goal[:one[0]])
                second = cover(other, start[3:3 + other[0]], goal[3:3 + other[0]])
                told = cover(beside(one, other), start[:one[0]] + start[3:3 + other[0]],
                             goal[:one[0]] + goal[3:3 + other[0]])
                self.assertEqual(told[0] == "run", (first[0], second[0]) == ("run", "run"), (one, other, start, goal))
                if told[0] == "run":
                    self.assertEqual(len(told[1]), len(first[1]) + len(second[1]))

    def test_places_are_full_together_just_where_each_ones_are(self):
        for one, other in two_nets(136, 60, 2, 3, 2):
            for start in STARTS:
                for first, second in itertools.product(([], [0], [one[0] - 1, 0]), ([], [0], [other[0] - 1, 0])):
                    told = together(beside(one, other), start[:one[0]] + start[3:3 + other[0]],
                                    first + [place + one[0] for place in second])
                    self.assertEqual(told, together(one, start[:one[0]], first)
                                     and together(other, start[3:3 + other[0]], second))

    def test_grounds_stand_beside_one_another(self):
        for one, other in two_nets(138, 100, 3, 5, 4):
            net = beside(one, other)
            for ground, width, further in ((kept_weights, one[0], other[0]),
                                           (round_counts, len(one[1]), len(other[1]))):
                self.assertEqual(ground(net), [row + [0] * further for row in ground(one)]
                                 + [[0] * width + row for row in ground(other)])

    def test_sinks_and_traps_stand_beside_one_another(self):
        for one, other in two_nets(140, 100, 3, 5, 2):
            for greatest in (greatest_sink, greatest_trap):
                further = [place + one[0] for place in greatest(other, list(range(other[0])))]
                self.assertEqual(greatest(beside(one, other), list(range(one[0] + other[0]))),
                                 greatest(one, list(range(one[0]))) + further)


class Telling(unittest.TestCase):
    def test_all_that_comes_has_one_weight_and_lies_over_the_sill(self):
        for net in some_nets(150, 200, 4, 4, 2):
            start = (2, 1, 0, 1)[:net[0]]
            told = all_of(net, start)
            for row in kept_weights(net):
                self.assertEqual({weight(row, hoard) for hoard in some_of_all(net, start)}, {weight(row, start)})
            for goal in told[1][:10] if told[0] == "all" else []:
                self.assertTrue(any(over(start, hoard) for hoard in sill(net, goal)))
                self.assertLessEqual(len(cover(net, start, goal)[1]), len(run_to(net, start, goal)))

    def test_what_is_come_over_is_what_lies_below_all_that_comes(self):
        for net in some_nets(151, 150, 3, 4, 2):
            for start in STARTS:
                told = all_of(net, start[:net[0]])
                for goal in GOALS if told[0] == "all" else []:
                    comes = any(over(hoard, goal[:net[0]]) for hoard in told[1])
                    self.assertEqual(cover(net, start[:net[0]], goal[:net[0]])[0] == "run", comes)

    def test_a_ring_that_leads_back_goes_round(self):
        self.assertEqual(round_counts(ROUND), [[1] * 6])
        first, last = (1, 0, 0, 0, 0, 0), (0, 0, 0, 0, 0, 1)
        run = run_to(ROUND, first, last) + run_to(ROUND, last, first)
        self.assertEqual([run.count(move) for move in range(6)], [1] * 6)

    def test_a_net_that_was_read_gives_the_same_answers(self):
        for net in [PAIR] + some_nets(152, 60, 3, 4, 3):
            again = read(shown(net))
            start, goal = (2, 0, 1)[:net[0]], (1, 2, 2)[:net[0]]
            self.assertEqual(again, net)
            self.assertEqual(sill(again, goal), sill(net, goal))
            self.assertEqual(cover(again, start, goal), cover(net, start, goal))
            self.assertEqual(all_of(again, start), all_of(net, start))
            self.assertEqual(shown(turned(again)), shown(turned(net)))

    def test_turned_texts(self):
        self.assertEqual(shown(turned(read("2 ; 1 0 > 0 1 ; 0 2 > 3 0"))), "2 ; 0 1 > 1 0 ; 3 0 > 0 2")
        self.assertEqual(shown(beside(read("1 ; 1 > 2"), read("2 ; 3 4 > 5 6"))), "3 ; 1 0 0 > 2 0 0 ; 0 3 4 > 0 5 6")
        self.assertEqual(shown(without_place(read("3 ; 1 2 3 > 4 5 6"), 1)), "2 ; 1 3 > 4 6")


if __name__ == "__main__":
    unittest.main()
