import copy
import itertools
import unittest

from samples import (BARE, FULL, GREAT, PAIR, ROUND, WRONG_NETS, WRONG_PLACES, next_hoards, odd_things, plain_reach,
                     some_nets)
from tokenwall.covers import cover
from tokenwall.errors import NoNet, NoPlace, TokenError, TooBig
from tokenwall.makes import beside, turned, without_place
from tokenwall.nets import behind, checked
from tokenwall.reaches import all_of

# A move that takes nothing, one that gives nothing, one that does neither.
EMPTY_SIDES = (2, (((0, 0), (9, 1)), ((2, 9), (0, 0)), ((0, 0), (0, 0))))

SAMPLES = [PAIR, BARE, FULL, ROUND, EMPTY_SIDES, (6, ()), (1, (((0,), (9,)), ((9,), (0,))))]


def net_of(places, moves):
    return (places, tuple(((number,) * places, (0,) * places) for number in range(moves)))


def hoards_of(net, most):
    return list(itertools.product(range(most + 1), repeat=net[0]))


def made_runs(net, start, most):
    """Each run of at most so many moves that can be made, with the hoard that it leads to."""
    waiting = [([], start)]
    while waiting:
        run, hoard = waiting.pop()
        yield run, hoard
        if len(run) < most:
            waiting.extend((run + [move], other) for move, other in next_hoards(net, hoard).items())


class Turned(unittest.TestCase):
    def test_moves_take_what_they_gave(self):
        self.assertEqual(turned(PAIR), (2, (((0, 1), (1, 0)), ((3, 0), (0, 2)))))
        self.assertEqual(turned((1, (((3,), (5,)),))), (1, (((5,), (3,)),)))
        self.assertEqual(turned((3, (((1, 2, 3), (4, 5, 6)),))), (3, (((4, 5, 6), (1, 2, 3)),)))

    def test_edges(self):
        self.assertEqual(turned(BARE), BARE)
        self.assertEqual(turned((6, ())), (6, ()))
        self.assertEqual(turned(FULL), (6, (((0, 9, 0, 0, 0, 0), (9, 0, 0, 0, 0, 0)),) * 10))
        self.assertEqual(turned(EMPTY_SIDES), (2, (((9, 1), (0, 0)), ((0, 0), (2, 9)), ((0, 0), (0, 0)))))

    def test_it_is_a_net_and_turned_twice_the_net(self):
        for net in SAMPLES + some_nets(80, 60, 6, 10, 9):
            self.assertEqual(checked(turned(net)), turned(net))
            self.assertEqual(turned(turned(net)), net)

    def test_a_run_leads_there_just_if_it_leads_back_read_backwards(self):
        for net in some_nets(81, 40, 2, 3, 2):
            for start in hoards_of(net, 2):
                self.check_runs(net, turned(net), start)
                self.check_runs(turned(net), net, start)

    def check_runs(self, net, other, start):
        for run, hoard in made_runs(net, start, 3):
            self.assertEqual(behind(other, hoard, run[::-1]), start, (net, start, run))

    def test_no_net(self):
        for net in WRONG_NETS + odd_things():
            with self.assertRaises(NoNet):
                turned(net)


class Beside(unittest.TestCase):
    def refused(self, one, other):
        with self.assertRaises(TooBig):
            beside(one, other)

    def test_places_and_moves_of_the_first_come_first(self):
        one = (1, (((1,), (2,)), ((3,), (4,))))
        self.assertEqual(beside(one, PAIR), (3, (((1, 0, 0), (2, 0, 0)), ((3, 0, 0), (4, 0, 0)),
                                                 ((0, 1, 0), (0, 0, 1)), ((0, 0, 2), (0, 3, 0)))))
        self.assertEqual(beside(PAIR, one), (3, (((1, 0, 0), (0, 1, 0)), ((0, 2, 0), (3, 0, 0)),
                                                 ((0, 0, 1), (0, 0, 2)), ((0, 0, 3), (0, 0, 4)))))
        self.assertEqual(beside(one, one),
                         (2, (((1, 0), (2, 0)), ((3, 0), (4, 0)), ((0, 1), (0, 2)), ((0, 3), (0, 4)))))

    def test_nets_without_moves(self):
        self.assertEqual(beside(BARE, BARE), (2, ()))
        self.assertEqual(beside(BARE, PAIR), (3, (((0, 1, 0), (0, 0, 1)), ((0, 0, 2), (0, 3, 0)))))
        self.assertEqual(beside(PAIR, BARE), (3, (((1, 0, 0), (0, 1, 0)), ((0, 2, 0), (3, 0, 0)))))
        self.assertEqual(beside((5, ()), BARE), (6, ()))

    def test_nought_and_nine(self):
        self.assertEqual(beside(EMPTY_SIDES, (1, (((9,), (0,)),))),
                         (3, (((0, 0, 0), (9, 1, 0)), ((2, 9, 0), (0, 0, 0)), ((0, 0, 0), (0, 0, 0)),
                              ((0, 0, 9), (0, 0, 0)))))

    def test_at_most_six_places(self):
        for first in range(1, 7):
            for second in range(1, 7):
                if first + second <= 6:
                    net = beside(net_of(first, 2), net_of(second, 3))
                    self.assertEqual((net[0], len(net[1])), (first + second, 5))
                else:
                    self.refused(net_of(first, 2), net_of(second, 3))
                    self.refused((first, ()), (second, ()))

    def test_at_most_ten_moves(self):
        for first in range(11):
            for second in range(11):
                if first + second <= 10:
                    net = beside(((2, (((1, 2), (3, 4)),) * first)), (1, (((5,), (6,)),) * second))
                    self.assertEqual(net, (3, (((1, 2, 0), (3, 4, 0)),) * first + (((0, 0, 5), (0, 0, 6)),) * second))
                else:
                    self.refused((2, (((1, 2), (3, 4)),) * first), (1, (((5,), (6,)),) * second))

    def test_too_many_of_both(self):
        self.refused(FULL, FULL)
        self.refused(FULL, BARE)
        self.refused(BARE, FULL)
        self.refused((3, ()), (4, ()))

    def test_it_is_a_net(self):
        for one, other in zip(some_nets(82, 60, 3, 5, 9), some_nets(83, 60, 3, 5, 9)):
            net = beside(one, other)
            self.assertEqual(checked(net), net)
            self.assertEqual(turned(net), beside(turned(one), turned(other)))

    def test_each_moves_by_its_own(self):
        for one, other in zip(some_nets(84, 60, 2, 3, 2), some_nets(85, 60, 2, 3, 2)):
            net = beside(one, other)
            for first, second in itertools.product(hoards_of(one, 2), hoards_of(other, 2)):
                told = next_hoards(net, first + second)
                moved = {move: hoard + second for move, hoard in next_hoards(one, first).items()}
                moved.update((move + len(one[1]), first + hoard) for move, hoard in next_hoards(other, second).items())
                self.assertEqual(told, moved)

    def test_a_goal_of_both_is_come_over_just_where_each_is(self):
        for one, other in zip(some_nets(86, 60, 2, 3, 3), some_nets(87, 60, 2, 3, 3)):
            net = beside(one, other)
            for start, goal in (((1, 0), (0, 2)), ((2, 1), (1, 3)), ((0, 2), (2, 0)), ((3, 3), (4, 4))):
                first = cover(one, start[:one[0]], goal[:one[0]])
                second = cover(other, start[:other[0]], goal[:other[0]])
                told = cover(net, start[:one[0]] + start[:other[0]], goal[:one[0]] + goal[:other[0]])
                self.assertEqual(told[0] == "run", first[0] == "run" and second[0] == "run", (one, other, start))
                if told[0] == "run":
                    self.assertEqual(len(told[1]), len(first[1]) + len(second[1]))

    def test_all_of_both_are_all_pairs(self):
        ended = 0
        for one, other in zip(some_nets(88, 150, 2, 2, 3), some_nets(89, 150, 2, 2, 3)):
            net = beside(one, other)
            first, second = (2, 3)[:one[0]], (3, 1)[:other[0]]
            told = all_of(net, first + second)
            firsts, seconds = plain_reach(one, first), plain_reach(other, second)
            if firsts is None or seconds is None:
                self.assertEqual(told[0], "pump")
            else:
                ended += 1
                self.assertEqual(told, ("all", [a + b for a, b in itertools.product(sorted(firsts), sorted(seconds))]))
        self.assertGreater(ended, 20)

    def test_no_net(self):
        for thing in WRONG_NETS + odd_things():
            for one, other in ((thing, PAIR), (PAIR, thing), (thing, thing)):
                with self.assertRaises(NoNet):
                    beside(one, other)

    def test_no_net_goes_ahead_of_too_big(self):
        for one, other in ((FULL, (7, ())), ((7, ()), FULL), (FULL, None), (None, FULL),
                           ((1, (((0,), (0,)),) * 11), BARE), (BARE, (1, (((0,), (0,)),) * 11))):
            with self.assertRaises(NoNet):
                beside(one, other)


class WithoutPlace(unittest.TestCase):
    def test_moves_take_and_give_at_the_others(self):
        self.assertEqual(without_place(PAIR, 0), (1, (((0,), (1,)), ((2,), (0,)))))
        self.assertEqual(without_place(PAIR, 1), (1, (((1,), (0,)), ((0,), (3,)))))
        net = (3, (((1, 2, 3), (4, 5, 6)), ((7, 8, 9), (0, 0, 0))))
        self.assertEqual(without_place(net, 0), (2, (((2, 3), (5, 6)), ((8, 9), (0, 0)))))
        self.assertEqual(without_place(net, 1), (2, (((1, 3), (4, 6)), ((7, 9), (0, 0)))))
        self.assertEqual(without_place(net, 2), (2, (((1, 2), (4, 5)), ((7, 8), (0, 0)))))

    def test_six_places_and_ten_moves(self):
        self.assertEqual(without_place(FULL, 5), (5, (((9, 0, 0, 0, 0), (0, 9, 0, 0, 0)),) * 10))
        self.assertEqual(without_place(FULL, 0), (5, (((0, 0, 0, 0, 0), (9, 0, 0, 0, 0)),) * 10))
        self.assertEqual(without_place((6, ()), 3), (5, ()))

    def test_two_places(self):
        self.assertEqual(without_place((2, ()), 0), BARE)
        self.assertEqual(without_place((2, ()), 1), BARE)
        self.assertEqual(without_place(EMPTY_SIDES, 0), (1, (((0,), (1,)), ((9,), (0,)), ((0,), (0,)))))

    def test_it_is_a_net(self):
        for net in some_nets(90, 60, 6, 10, 9):
            for place in range(net[0]):
                if net[0] > 1:
                    told = without_place(net, place)
                    self.assertEqual(checked(told), told)
                    self.assertEqual((told[0], len(told[1])), (net[0] - 1, len(net[1])))

    def test_what_was_set_beside_it_is_taken_out(self):
        for net in some_nets(91, 60, 5, 10, 9):
            self.assertEqual(without_place(beside(net, BARE), net[0]), net)
            self.assertEqual(without_place(beside(BARE, net), 0), net)

    def test_whatever_run_can_be_made_can_be_made_then(self):
        for net in some_nets(92, 60, 3, 3, 2):
            for place in range(net[0] if net[0] > 1 else 0):
                less = without_place(net, place)
                for start in hoards_of(net, 2)[::2]:
                    for run, hoard in made_runs(net, start, 3):
                        told = behind(less, start[:place] + start[place + 1:], run)
                        self.assertEqual(told, hoard[:place] + hoard[place + 1:], (net, place, start, run))

    def test_a_net_of_one_place(self):
        for net in (BARE, (1, (((1,), (1,)),)), (1, (((9,), (0,)),) * 10)):
            with self.assertRaises(TooBig):
                without_place(net, 0)

    def test_no_place(self):
        for thing in WRONG_PLACES + odd_things():
            with self.assertRaises(NoPlace):
                without_place(PAIR, thing)
        for place in (6, 7, -1, GREAT):
            with self.assertRaises(NoPlace):
                without_place(FULL, place)

    def test_no_place_goes_ahead_of_too_big(self):
        for thing in WRONG_PLACES + odd_things() + [1]:
            with self.assertRaises(NoPlace):
                without_place(BARE, thing)

    def test_no_net(self):
        for thing in WRONG_NETS + odd_things():
            for place in (0, None, -1):
                with self.assertRaises(NoNet):
                    without_place(thing, place)


class All(unittest.TestCase):
    def test_nothing_is_changed_and_equal_things_give_equal_answers(self):
        for make, things in ((turned, (PAIR,)), (turned, ([2, ()],)), (beside, (PAIR, BARE)), (beside, (FULL, FULL)),
                             (beside, (PAIR, [1, ()])), (without_place, (PAIR, 1)), (without_place, (BARE, 0)),
                             (without_place, (PAIR, [0]))):
            handed = copy.deepcopy(things)
            answers = []
            for each in range(2):
                try:
                    answers.append(make(*handed))
                except TokenError as refusal:
                    answers.append(refusal.__class__)
            self.assertEqual(handed, things)
            self.assertEqual(answers[0], answers[1])


if __name__ == "__main__":
    unittest.main()
