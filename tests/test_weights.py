import copy
import itertools
import math
import random
import unittest
from fractions import Fraction

from samples import BARE, FULL, GREAT, PAIR, ROUND, WRONG_NETS, next_hoards, odd_things, some_nets
from tokenwall.errors import NoNet
from tokenwall.weights import kept_weights, round_counts, weight


def changes_of(net):
    return [[give - take for take, give in zip(takes, gives)] for takes, gives in net[1]]


def are_kept(net, weights):
    return all(sum(a * b for a, b in zip(weights, change)) == 0 for change in changes_of(net))


def go_round(net, counts):
    return all(sum(count * change[place] for count, change in zip(counts, changes_of(net))) == 0
               for place in range(net[0]))


def rank(rows):
    """How many of the rows are no sums of others, by plain fractions."""
    rows = [[Fraction(number) for number in row] for row in rows]
    found = 0
    for place in range(len(rows[0]) if rows else 0):
        at = next((at for at in range(found, len(rows)) if rows[at][place]), None)
        if at is not None:
            rows[found], rows[at] = rows[at], rows[found]
            for other in range(found + 1, len(rows)):
                part = rows[other][place] / rows[found][place]
                rows[other] = [a - part * b for a, b in zip(rows[other], rows[found])]
            found += 1
    return found


def first_place(row):
    return next(place for place, number in enumerate(row) if number != 0)


class Grounds(unittest.TestCase):
    def check_form(self, rows, width):
        self.assertIsInstance(rows, list)
        firsts = []
        for row in rows:
            self.assertIsInstance(row, list)
            self.assertEqual(len(row), width)
            for number in row:
                self.assertIs(number.__class__, int)
            firsts.append(first_place(row))
            self.assertGreater(row[firsts[-1]], 0)
            self.assertEqual(math.gcd(*row), 1)
        self.assertEqual(firsts, sorted(set(firsts)))
        for place, row in zip(firsts, rows):
            self.assertEqual([other[place] for other in rows if other is not row], [0] * (len(rows) - 1))

    def check(self, net):
        kept = kept_weights(net)
        self.check_form(kept, net[0])
        self.assertTrue(all(are_kept(net, row) for row in kept), net)
        self.assertEqual(len(kept), net[0] - rank(changes_of(net)), net)
        counts = round_counts(net)
        self.check_form(counts, len(net[1]))
        self.assertTrue(all(go_round(net, row) for row in counts), net)
        self.assertEqual(len(counts), len(net[1]) - rank(changes_of(net)), net)

    def test_samples(self):
        for net in (PAIR, BARE, FULL, ROUND, (6, ()), (1, (((0,), (0,)),) * 10)):
            self.check(net)

    def test_some_nets(self):
        for net in some_nets(60, 400, 4, 5, 4) + some_nets(61, 200, 6, 10, 9) + some_nets(62, 200, 6, 4, 9):
            self.check(net)

    def test_nets_of_which_no_number_is_nought(self):
        dice = random.Random(63)
        for moves in range(1, 11):
            for places in range(1, 7):
                rows = [tuple(dice.randint(1, 9) for place in range(places)) for each in range(2 * moves)]
                self.check((places, tuple(zip(rows[:moves], rows[moves:]))))

    def test_each_kept_one_is_a_sum_of_them(self):
        for net in some_nets(64, 60, 3, 3, 2):
            for told, holds, width in ((kept_weights(net), are_kept, net[0]),
                                       (round_counts(net), go_round, len(net[1]))):
                for row in itertools.product(range(-3, 4), repeat=width):
                    if holds(net, row):
                        left = [Fraction(number) for number in row]
                        for one in told:
                            part = left[first_place(one)] / one[first_place(one)]
                            left = [a - part * b for a, b in zip(left, one)]
                        self.assertEqual(left, [0] * width)


class KeptWeights(unittest.TestCase):
    def test_no_row(self):
        self.assertEqual(kept_weights(PAIR), [])
        self.assertEqual(kept_weights((1, (((0,), (1,)),))), [])
        self.assertEqual(kept_weights((2, (((1, 0), (0, 1)), ((0, 1), (0, 0))))), [])

    def test_one_row(self):
        self.assertEqual(kept_weights((2, (((1, 0), (0, 1)),))), [[1, 1]])
        self.assertEqual(kept_weights((2, (((1, 0), (0, 2)),))), [[2, 1]])
        self.assertEqual(kept_weights((2, (((0, 0), (0, 1)),))), [[1, 0]])
        self.assertEqual(kept_weights((2, (((0, 0), (1, 0)),))), [[0, 1]])
        self.assertEqual(kept_weights(ROUND), [[1, 1, 1, 1, 1, 1]])

    def test_several_rows(self):
        self.assertEqual(kept_weights((3, (((1, 0, 0), (0, 1, 0)),))), [[1, 1, 0], [0, 0, 1]])
        self.assertEqual(kept_weights((3, (((2, 0, 0), (0, 3, 5)),))), [[5, 0, 2], [0, 5, -3]])
        self.assertEqual(kept_weights(FULL), [[1, 1, 0, 0, 0, 0], [0, 0, 1, 0, 0, 0], [0, 0, 0, 1, 0, 0],
                                              [0, 0, 0, 0, 1, 0], [0, 0, 0, 0, 0, 1]])

    def test_a_net_without_moves_keeps_all(self):
        self.assertEqual(kept_weights(BARE), [[1]])
        self.assertEqual(kept_weights((3, ())), [[1, 0, 0], [0, 1, 0], [0, 0, 1]])

    def test_a_move_that_changes_nothing(self):
        self.assertEqual(kept_weights((2, (((3, 1), (3, 1)),))), [[1, 0], [0, 1]])
        self.assertEqual(kept_weights((2, (((3, 1), (3, 1)), ((4, 2), (1, 2))))), [[0, 1]])

    def test_numbers_that_share_a_divisor(self):
        self.assertEqual(kept_weights((2, (((4, 0), (0, 6)),))), [[3, 2]])
        self.assertEqual(kept_weights((2, (((8, 0), (0, 4)),))), [[1, 2]])
        self.assertEqual(kept_weights((3, (((6, 0, 0), (0, 4, 0)), ((0, 0, 9), (0, 6, 0))))), [[2, 3, 2]])

    def test_a_first_number_that_would_come_out_below_nought(self):
        self.assertEqual(kept_weights((2, (((1, 1), (0, 0)),))), [[1, -1]])
        self.assertEqual(kept_weights((2, (((0, 0), (2, 3)),))), [[3, -2]])
        self.assertEqual(kept_weights((3, (((0, 1, 1), (0, 0, 0)), ((0, 0, 0), (0, 2, 2))))), [[1, 0, 0], [0, 1, -1]])
        self.assertEqual(kept_weights((3, (((0, 0, 0), (3, 2, 4)),))), [[4, 0, -3], [0, 2, -1]])

    def test_moves_keep_the_weight_of_each_hoard(self):
        for net in some_nets(65, 100, 3, 2, 3):
            for hoard in itertools.product(range(4), repeat=net[0]):
                for row in kept_weights(net):
                    for other in next_hoards(net, hoard).values():
                        self.assertEqual(weight(row, hoard), weight(row, other))

    def test_no_net(self):
        for net in WRONG_NETS + odd_things():
            with self.assertRaises(NoNet):
                kept_weights(net)

    def test_new_lists_and_nothing_changed(self):
        net = copy.deepcopy(FULL)
        first = kept_weights(net)
        kept = copy.deepcopy(first)
        second = kept_weights(net)
        for one, other in zip(first, second):
            self.assertIsNot(one, other)
            one.clear()
        first.clear()
        self.assertEqual(second, kept)
        self.assertEqual(kept_weights(copy.deepcopy(net)), kept)
        self.assertEqual(net, FULL)


class RoundCounts(unittest.TestCase):
    def test_no_row(self):
        self.assertEqual(round_counts((2, (((1, 0), (0, 1)),))), [])
        self.assertEqual(round_counts(PAIR), [])
        self.assertEqual(round_counts(BARE), [])
        self.assertEqual(round_counts((6, ())), [])

    def test_one_row(self):
        self.assertEqual(round_counts((2, (((1, 0), (0, 1)), ((0, 1), (1, 0))))), [[1, 1]])
        self.assertEqual(round_counts((2, (((1, 0), (0, 2)), ((0, 1), (1, 0)), ((1, 0), (0, 0))))), [[1, 2, 1]])
        self.assertEqual(round_counts(ROUND), [[1, 1, 1, 1, 1, 1]])

    def test_several_rows(self):
        self.assertEqual(round_counts((1, (((0,), (1,)), ((0,), (2,)), ((0,), (3,))))), [[3, 0, -1], [0, 3, -2]])
        self.assertEqual(round_counts((2, (((1, 0), (0, 1)), ((0, 1), (1, 0)), ((0, 0), (0, 0)), ((1, 0), (0, 2))))),
                         [[1, 1, 0, 0], [0, 0, 1, 0]])
        self.assertEqual(len(round_counts(FULL)), 9)
        self.assertEqual(round_counts(FULL)[0], [1] + [0] * 8 + [-1])

    def test_a_move_that_changes_nothing(self):
        self.assertEqual(round_counts((1, (((5,), (5,)),))), [[1]])
        self.assertEqual(round_counts((1, (((5,), (5,)), ((0,), (0,)), ((0,), (1,))))), [[1, 0, 0], [0, 1, 0]])

    def test_numbers_that_share_a_divisor(self):
        self.assertEqual(round_counts((1, (((4,), (0,)), ((0,), (6,))))), [[3, 2]])
        self.assertEqual(round_counts((1, (((8,), (0,)), ((0,), (4,))))), [[1, 2]])

    def test_a_first_number_that_would_come_out_below_nought(self):
        self.assertEqual(round_counts((1, (((0,), (1,)), ((0,), (1,))))), [[1, -1]])
        self.assertEqual(round_counts((1, (((2,), (0,)), ((3,), (0,))))), [[3, -2]])
        self.assertEqual(round_counts((1, (((1,), (1,)), ((2,), (0,)), ((4,), (0,))))), [[1, 0, 0], [0, 2, -1]])

    def test_a_round_that_is_made_comes_back(self):
        net = (2, (((1, 0), (0, 2)), ((0, 1), (1, 0)), ((1, 0), (0, 0))))
        hoard = (9, 9)
        for move, count in enumerate(round_counts(net)[0]):
            for each in range(count):
                hoard = next_hoards(net, hoard)[move]
        self.assertEqual(hoard, (9, 9))

    def test_no_net(self):
        for net in WRONG_NETS + odd_things():
            with self.assertRaises(NoNet):
                round_counts(net)

    def test_new_lists_and_nothing_changed(self):
        net = copy.deepcopy(FULL)
        first = round_counts(net)
        kept = copy.deepcopy(first)
        second = round_counts(net)
        for one, other in zip(first, second):
            self.assertIsNot(one, other)
            one.clear()
        first.clear()
        self.assertEqual(second, kept)
        self.assertEqual(round_counts(copy.deepcopy(net)), kept)
        self.assertEqual(net, FULL)
        empty = round_counts(BARE)
        empty.append([])
        self.assertEqual(round_counts(BARE), [])


class Weight(unittest.TestCase):
    def test_sums(self):
        self.assertEqual(weight([2, 1], (3, 4)), 10)
        self.assertEqual(weight([2, -1], (3, 4)), 2)
        self.assertEqual(weight([-2, -1], (3, 4)), -10)
        self.assertEqual(weight([0, 0, 0], (3, 4, 5)), 0)
        self.assertEqual(weight([1, 2, 3, 4, 5, 6], (6, 5, 4, 3, 2, 1)), 56)

    def test_edges(self):
        self.assertEqual(weight([5], (0,)), 0)
        self.assertEqual(weight([1], (GREAT,)), GREAT)
        self.assertEqual(weight([GREAT, -GREAT], (GREAT, GREAT - 1)), GREAT)

    def test_nothing_is_changed(self):
        weights, hoard = [2, 1], (3, 4)
        weight(weights, hoard)
        self.assertEqual((weights, hoard), ([2, 1], (3, 4)))


if __name__ == "__main__":
    unittest.main()
