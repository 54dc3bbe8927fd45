import copy
import itertools
import unittest

from samples import BARE, FULL, GREAT, PAIR, odd_things, some_nets
from tokenwall.errors import NoHoard, NoMove, NoNet, Stuck, TokenError
from tokenwall.nets import behind, can, checked, is_hoard, over


def row(places, number=0):
    return (number,) * places


def net_of(places, moves):
    return (places, tuple((row(places), row(places, 1)) for move in range(moves)))


class Checked(unittest.TestCase):
    def refused(self, thing):
        with self.assertRaises(NoNet):
            checked(thing)

    def test_nets_are_told(self):
        for net in (PAIR, BARE, FULL, (6, ()), (1, (((0,), (0,)),)), (1, (((9,), (9,)),))):
            self.assertEqual(checked(net), net)
            self.assertIsInstance(checked(net), tuple)

    def test_equal_nets_give_equal_answers(self):
        self.assertEqual(checked(copy.deepcopy(PAIR)), checked(PAIR))

    def test_places_are_one_to_six(self):
        for places in range(1, 7):
            self.assertEqual(checked(net_of(places, 2)), net_of(places, 2))
        for places in (-1, 0, 7, 8, GREAT):
            self.refused((places, ()))
        self.refused(net_of(7, 1))
        self.refused((0, (((), ()),)))
        self.refused((-1, (((), ()),)))

    def test_moves_are_at_most_ten(self):
        for moves in range(11):
            self.assertEqual(checked(net_of(2, moves)), net_of(2, moves))
        self.refused(net_of(2, 11))
        self.refused(net_of(1, 500))

    def test_numbers_are_nought_to_nine(self):
        for number in range(10):
            net = (2, (((0, number), (number, 9)),))
            self.assertEqual(checked(net), net)
        for number in (-1, 10, 11, -10, GREAT, -GREAT):
            for place, side in itertools.product((0, 1), (0, 1)):
                rows = [[0, 0], [0, 0]]
                rows[side][place] = number
                self.refused((2, ((tuple(rows[0]), tuple(rows[1])),)))

    def test_rows_have_one_number_for_each_place(self):
        for wrong in ((), (1,), (1, 1, 1), (1, 1, 1, 1)):
            self.refused((2, ((wrong, (0, 0)),)))
            self.refused((2, (((0, 0), wrong),)))
            self.refused((2, ((wrong, wrong),)))

    def test_a_move_has_two_rows(self):
        for wrong in ((), ((0, 0),), ((0, 0), (0, 0), (0, 0)), (0, 0)):
            self.refused((2, (wrong,)))

    def test_a_net_has_two_parts(self):
        for wrong in ((), (2,), (2, (), ()), (2, (), None), ((), 2)):
            self.refused(wrong)

    def test_lists_are_no_tuples(self):
        self.refused([1, ()])
        self.refused((1, []))
        self.refused((1, [((0,), (0,))]))
        self.refused((1, ([(0,), (0,)],)))
        self.refused((1, (([0], (0,)),)))
        self.refused((1, (((0,), [0]),)))

    def test_true_and_false_are_no_numbers(self):
        self.refused((True, ()))
        self.refused((True, (((0,), (0,)),)))
        for truth in (True, False):
            self.refused((1, (((truth,), (0,)),)))
            self.refused((1, (((0,), (truth,)),)))

    def test_whatever_is_no_net(self):
        for thing in odd_things() + [1, 0, [1, ()], "1 ; 0 > 0"]:
            self.refused(thing)

    def test_odd_things_within(self):
        for thing in odd_things():
            self.refused((thing, ()))
            self.refused((1, (((thing,), (0,)),)))
            self.refused((1, (((0,), (thing,)),)))
            self.refused((1, ((thing, (0,)),)))
            self.refused((1, (((0,), thing),)))
            self.refused((1, (thing,)))
            if not isinstance(thing, tuple) or len(thing) > 0:
                self.refused((1, thing))

    def test_a_wrong_last_move_is_seen(self):
        self.refused((1, (((0,), (0,)),) * 9 + (((0,), (10,)),)))

    def test_nothing_is_changed(self):
        wrong = (2, [((0, 0), [0, 0])])
        kept = copy.deepcopy(wrong)
        self.refused(wrong)
        self.assertEqual(wrong, kept)


class Hoards(unittest.TestCase):
    def test_hoards(self):
        for hoard in ((0, 0), (0, 9), (10, 11), (GREAT, 0), (GREAT, GREAT)):
            self.assertIs(is_hoard(PAIR, hoard), True)
        for hoard in ((0,), (GREAT,)):
            self.assertIs(is_hoard(BARE, hoard), True)
        self.assertIs(is_hoard(FULL, (0, 1, 2, 3, 4, GREAT)), True)

    def test_what_is_no_hoard(self):
        for thing in odd_things() + [[0, 0], (0,), (0, 0, 0), 0, (-1, 0), (0, -1), (0, -GREAT), ((0, 0),), ((0,), 0)]:
            self.assertIs(is_hoard(PAIR, thing), False)
        for thing in ((), (0, 0), [0], 0, (-1,)):
            self.assertIs(is_hoard(BARE, thing), False)
        for thing in (row(5), row(7), list(row(6))):
            self.assertIs(is_hoard(FULL, thing), False)

    def test_odd_numbers_within(self):
        for thing in odd_things():
            if thing.__class__ is not int or thing < 0:
                self.assertIs(is_hoard(PAIR, (thing, 0)), False)
                self.assertIs(is_hoard(PAIR, (0, thing)), False)

    def test_true_and_false_are_no_numbers(self):
        for thing in ((True, 0), (0, False), (True, True)):
            self.assertIs(is_hoard(PAIR, thing), False)

    def test_what_is_no_net_has_no_hoards(self):
        for net in (None, (0, ()), [2, ()], (7, ())):
            with self.assertRaises(NoNet):
                is_hoard(net, (0, 0))


WRONG_HOARDS = [None, True, 0, "00", [], [0, 0], (), (0,), (0, 0, 0), (-1, 0), (0, -1), (True, 0), (0, None),
                ("0", "0"), (0.0, 0)]
WRONG_MOVES = [None, True, False, -1, -2, 2, 10, GREAT, -GREAT, "0", 0.0, 1.0, (0,), [0], {}]


class Can(unittest.TestCase):
    def test_no_fewer_than_taken(self):
        self.assertIs(can(PAIR, (1, 0), 0), True)
        self.assertIs(can(PAIR, (0, 0), 0), False)
        self.assertIs(can(PAIR, (0, 9), 0), False)
        self.assertIs(can(PAIR, (0, 2), 1), True)
        self.assertIs(can(PAIR, (9, 1), 1), False)
        self.assertIs(can(PAIR, (5, 3), 1), True)

    def test_at_each_place(self):
        net = (6, ((row(6, 9), row(6)),))
        self.assertIs(can(net, row(6, 9), 0), True)
        for place in range(6):
            hoard = tuple(8 if each == place else 9 for each in range(6))
            self.assertIs(can(net, hoard, 0), False)

    def test_what_it_gives_does_not_help(self):
        self.assertIs(can((1, (((1,), (9,)),)), (0,), 0), False)

    def test_a_move_that_takes_nothing(self):
        self.assertIs(can((1, (((0,), (9,)),)), (0,), 0), True)
        self.assertIs(can((1, (((0,), (0,)),)), (0,), 0), True)

    def test_very_great_numbers(self):
        self.assertIs(can(PAIR, (GREAT, 0), 0), True)
        self.assertIs(can(PAIR, (GREAT, 0), 1), False)

    def test_the_last_of_ten_moves(self):
        self.assertIs(can(FULL, (9, 0, 0, 0, 0, 0), 9), True)
        with self.assertRaises(NoMove):
            can(FULL, (9, 0, 0, 0, 0, 0), 10)

    def test_no_hoard(self):
        for thing in WRONG_HOARDS + odd_things():
            with self.assertRaises(NoHoard):
                can(PAIR, thing, 0)

    def test_no_move(self):
        for thing in WRONG_MOVES + odd_things():
            with self.assertRaises(NoMove):
                can(PAIR, (1, 1), thing)
        for thing in (0, -1, 1):
            with self.assertRaises(NoMove):
                can(BARE, (1,), thing)

    def test_no_hoard_is_named_first(self):
        for hoard in WRONG_HOARDS:
            for move in WRONG_MOVES:
                with self.assertRaises(NoHoard):
                    can(PAIR, hoard, move)

    def test_no_net(self):
        for net in (None, (0, ()), [2, PAIR[1]], (2, list(PAIR[1]))):
            with self.assertRaises(NoNet):
                can(net, (0, 0), 0)


class Behind(unittest.TestCase):
    def stuck_at(self, net, hoard, run):
        with self.assertRaises(Stuck) as caught:
            behind(net, hoard, run)
        return caught.exception.at

    def test_one_move(self):
        self.assertEqual(behind(PAIR, (1, 0), [0]), (0, 1))
        self.assertEqual(behind(PAIR, (4, 3), [1]), (7, 1))

    def test_it_takes_and_gives_at_one_place(self):
        net = (2, (((3, 1), (2, 9)),))
        self.assertEqual(behind(net, (3, 1), [0]), (2, 9))
        self.assertEqual(self.stuck_at(net, (2, 1), [0]), 0)
        self.assertEqual(self.stuck_at(net, (3, 1), [0, 0]), 1)

    def test_runs(self):
        self.assertEqual(behind(PAIR, (2, 0), [0, 0, 1]), (3, 0))
        self.assertEqual(behind(PAIR, (2, 0), [0, 0, 1, 0, 0, 0]), (0, 3))

    def test_the_empty_run(self):
        for net, hoard in ((PAIR, (0, 0)), (PAIR, (5, GREAT)), (BARE, (7,)), (FULL, row(6))):
            self.assertEqual(behind(net, hoard, []), hoard)

    def test_it_is_a_hoard(self):
        told = behind(PAIR, (2, 0), [0])
        self.assertIsInstance(told, tuple)
        self.assertIs(is_hoard(PAIR, told), True)

    def test_six_places_nought_and_nine(self):
        self.assertEqual(behind(FULL, (18, 0, 0, 0, 0, 1), [0, 9]), (0, 18, 0, 0, 0, 1))
        self.assertEqual(self.stuck_at(FULL, (26, 0, 0, 0, 0, 1), [0, 9, 5]), 2)

    def test_very_great_numbers(self):
        self.assertEqual(behind(PAIR, (GREAT, GREAT), [0, 1, 1]), (GREAT + 5, GREAT - 3))

    def test_long_runs(self):
        self.assertEqual(behind((1, (((1,), (2,)),)), (1,), [0] * 5000), (5001,))

    def test_stuck_tells_the_first_move_that_cannot_be_made(self):
        self.assertEqual(self.stuck_at(PAIR, (0, 0), [0]), 0)
        self.assertEqual(self.stuck_at(PAIR, (1, 0), [0, 1]), 1)
        self.assertEqual(self.stuck_at(PAIR, (1, 0), [0, 1, 0, 0]), 1)
        self.assertEqual(self.stuck_at(PAIR, (2, 0), [0, 0, 1, 1, 0]), 3)
        self.assertEqual(self.stuck_at(PAIR, (GREAT, 0), [0, 1]), 1)

    def test_it_is_made_where_each_can_be_made(self):
        for net in some_nets(1, 60, 3, 3, 3):
            hoard = (2,) * net[0]
            for run in itertools.product(range(len(net[1])), repeat=3):
                self.one_by_one(net, hoard, list(run))

    def one_by_one(self, net, hoard, run):
        here = hoard
        for at, move in enumerate(run):
            takes, gives = net[1][move]
            self.assertEqual(can(net, here, move), all(a >= b for a, b in zip(here, takes)))
            if not can(net, here, move):
                self.assertEqual(self.stuck_at(net, hoard, run), at)
                return
            here = tuple(a - b + c for a, b, c in zip(here, takes, gives))
            self.assertEqual(behind(net, hoard, run[:at + 1]), here)

    def test_no_hoard(self):
        for thing in WRONG_HOARDS + odd_things():
            for run in ([], [0]):
                with self.assertRaises(NoHoard):
                    behind(PAIR, thing, run)

    def test_a_run_is_a_list(self):
        for thing in odd_things() + [(0,), (), 0, "0", {0: 1}, range(1), iter([0])]:
            if thing.__class__ is not list:
                with self.assertRaises(NoMove):
                    behind(PAIR, (5, 5), thing)

    def test_no_move_anywhere(self):
        for thing in WRONG_MOVES + odd_things():
            for run in ([thing], [thing, 0], [0, thing], [0, 0, thing, 0]):
                with self.assertRaises(NoMove):
                    behind(PAIR, (5, 5), run)
        with self.assertRaises(NoMove):
            behind(BARE, (5,), [0])

    def test_no_move_goes_ahead_of_stuck(self):
        for thing in WRONG_MOVES:
            for run in ([0, thing], [1, 0, 1, thing], [0, thing, 0]):
                with self.assertRaises(NoMove):
                    behind(PAIR, (0, 0), run)

    def test_no_hoard_goes_ahead_of_no_move(self):
        for hoard in WRONG_HOARDS:
            for run in (None, (0,), [2], [0, None], [-1]):
                with self.assertRaises(NoHoard):
                    behind(PAIR, hoard, run)

    def test_no_net(self):
        for net in (None, (0, ()), [2, PAIR[1]], (2, list(PAIR[1]))):
            with self.assertRaises(NoNet):
                behind(net, (0, 0), [])

    def test_nothing_is_changed(self):
        for hoard, run in (((2, 0), [0, 0, 1]), ((0, 0), [0, 0, 1]), ((2, 0), [0, None]), ([2, 0], [0])):
            kept = copy.deepcopy((PAIR, hoard, run))
            try:
                behind(PAIR, hoard, run)
            except TokenError:
                pass
            self.assertEqual((PAIR, hoard, run), kept)

    def test_equal_things_give_equal_answers(self):
        run = [0, 0, 1]
        first = behind(PAIR, (2, 0), run)
        self.assertEqual(behind(copy.deepcopy(PAIR), (2, 0), list(run)), first)
        self.assertEqual(behind(PAIR, (2, 0), run), first)


class Over(unittest.TestCase):
    def test_nowhere_fewer(self):
        self.assertIs(over((1, 2), (1, 2)), True)
        self.assertIs(over((1, 3), (1, 2)), True)
        self.assertIs(over((2, 2), (1, 2)), True)
        self.assertIs(over((1, 1), (1, 2)), False)
        self.assertIs(over((9, 1), (1, 2)), False)
        self.assertIs(over((0, 9), (1, 2)), False)

    def test_each_place_counts(self):
        for place in range(6):
            less = tuple(4 if each == place else 5 for each in range(6))
            self.assertIs(over(row(6, 5), less), True)
            self.assertIs(over(less, row(6, 5)), False)

    def test_noughts_and_very_great_numbers(self):
        self.assertIs(over((0,), (0,)), True)
        self.assertIs(over((GREAT,), (0,)), True)
        self.assertIs(over((GREAT,), (GREAT,)), True)
        self.assertIs(over((GREAT - 1,), (GREAT,)), False)
        self.assertIs(over((GREAT, 0), (0, GREAT)), False)

    def test_what_can_be_made_at_the_lower_can_be_made_at_it(self):
        hoards = list(itertools.product(range(4), repeat=2))
        for one, other in itertools.product(hoards, hoards):
            if over(one, other):
                for move in (0, 1):
                    self.assertTrue(can(PAIR, one, move) or not can(PAIR, other, move))


if __name__ == "__main__":
    unittest.main()
