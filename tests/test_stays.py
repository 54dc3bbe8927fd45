import copy
import itertools
import unittest

from samples import BARE, FULL, PAIR, ROUND, WRONG_NETS, WRONG_PLACES, Unpleasant, next_hoards, odd_things, some_nets
from tokenwall.covers import together
from tokenwall.errors import NoNet, NoPlace, TokenError
from tokenwall.stays import greatest_sink, greatest_trap, is_sink, is_trap

ALL = [greatest_sink, greatest_trap, is_sink, is_trap]

# Tokens go from place 0 to place 1 and back, and from place 1 on to place 2, where they stay.
LEAK = (3, (((1, 0, 0), (0, 1, 0)), ((0, 1, 0), (1, 0, 0)), ((0, 1, 0), (0, 0, 1))))

# Tokens are passed on along all places, from nowhere and to nowhere.
STREAM = (3, (((0, 0, 0), (1, 0, 0)), ((1, 0, 0), (0, 1, 0)), ((0, 1, 0), (0, 0, 1)), ((0, 0, 1), (0, 0, 0))))


def has_at(row, places):
    return any(row[place] > 0 for place in places)


def plainly_sink(net, places):
    return all(has_at(takes, places) for takes, gives in net[1] if has_at(gives, places))


def plainly_trap(net, places):
    return all(has_at(gives, places) for takes, gives in net[1] if has_at(takes, places))


def sets_of(places):
    places = sorted(set(places))
    return [list(each) for count in range(len(places) + 1) for each in itertools.combinations(places, count)]


def in_all_of(sets):
    return sorted({place for each in sets for place in each})


class Sinks(unittest.TestCase):
    def test_each_move_that_gives_to_one_takes_from_one(self):
        for places, told in (([], True), ([0], False), ([1], False), ([2], False), ([0, 1], True), ([0, 2], False),
                             ([1, 2], False), ([0, 1, 2], True)):
            self.assertIs(is_sink(LEAK, places), told, places)

    def test_greatest(self):
        for places, told in (([], []), ([0], []), ([1], []), ([2], []), ([0, 1], [0, 1]), ([0, 2], []),
                             ([1, 2], []), ([0, 1, 2], [0, 1, 2])):
            self.assertEqual(greatest_sink(LEAK, places), told, places)

    def test_one_place_goes_behind_another(self):
        self.assertEqual(greatest_sink(STREAM, [0, 1, 2]), [])
        self.assertEqual(greatest_sink(STREAM, [1, 2]), [])
        chain = (6, (((0,) * 6, (0, 0, 0, 0, 0, 1)),) + ROUND[1][:5] + tuple((b, a) for a, b in ROUND[1][:4]))
        self.assertEqual(greatest_sink(chain, [0, 1, 2, 3, 4, 5]), [0, 1, 2, 3, 4])
        self.assertEqual(greatest_sink(chain, [0, 1, 3, 4, 5]), [])
        back = (6, (((0,) * 6, (0, 0, 0, 0, 0, 1)),) + tuple((b, a) for a, b in ROUND[1][:5]))
        self.assertEqual(greatest_sink(back, [0, 1, 2, 3, 4, 5]), [])

    def test_a_move_that_takes_nothing(self):
        net = (2, (((0, 0), (1, 0)),))
        self.assertEqual(greatest_sink(net, [0, 1]), [1])
        self.assertIs(is_sink(net, [1]), True)
        self.assertIs(is_sink(net, [0]), False)
        self.assertIs(is_sink(net, [0, 1]), False)

    def test_a_move_that_gives_nothing(self):
        net = (2, (((1, 1), (0, 0)),))
        for places in sets_of([0, 1]):
            self.assertEqual(greatest_sink(net, places), places)
            self.assertIs(is_sink(net, places), True)

    def test_a_move_that_takes_and_gives_nothing(self):
        net = (2, (((0, 0), (0, 0)),))
        for places in sets_of([0, 1]):
            self.assertEqual(greatest_sink(net, places), places)
            self.assertIs(is_sink(net, places), True)

    def test_a_move_that_gives_back_what_it_takes(self):
        self.assertIs(is_sink((1, (((1,), (1,)),)), [0]), True)
        self.assertIs(is_sink((2, (((1, 0), (1, 1)),)), [0]), True)
        self.assertIs(is_sink((2, (((1, 0), (1, 1)),)), [1]), False)
        self.assertIs(is_sink((2, (((9, 0), (1, 1)),)), [0, 1]), True)

    def test_an_empty_sink_gets_no_token(self):
        for net in some_nets(70, 120, 4, 4, 2):
            for places in sets_of(range(net[0])):
                if is_sink(net, places):
                    start = tuple(0 if place in places else 2 for place in range(net[0]))
                    for place in places:
                        self.assertIs(together(net, start, [place]), False, (net, places))

    def test_what_is_no_sink_gets_a_token_by_one_move(self):
        for net in some_nets(71, 120, 4, 4, 4):
            for places in sets_of(range(net[0])):
                if not is_sink(net, places):
                    start = tuple(0 if place in places else 9 for place in range(net[0]))
                    self.assertTrue(any(has_at(hoard, places) for hoard in next_hoards(net, start).values()))


class Traps(unittest.TestCase):
    def test_each_move_that_takes_from_one_gives_to_one(self):
        for places, told in (([], True), ([0], False), ([1], False), ([2], True), ([0, 1], False), ([0, 2], False),
                             ([1, 2], False), ([0, 1, 2], True)):
            self.assertIs(is_trap(LEAK, places), told, places)

    def test_greatest(self):
        for places, told in (([], []), ([0], []), ([1], []), ([2], [2]), ([0, 1], []), ([0, 2], [2]),
                             ([1, 2], [2]), ([0, 1, 2], [0, 1, 2])):
            self.assertEqual(greatest_trap(LEAK, places), told, places)

    def test_one_place_goes_behind_another(self):
        self.assertEqual(greatest_trap(STREAM, [0, 1, 2]), [])
        self.assertEqual(greatest_trap(STREAM, [0, 1]), [])
        ends = (6, ROUND[1][:5] + (((0, 0, 0, 0, 0, 1), (0,) * 6),))
        self.assertEqual(greatest_trap(ends, [0, 1, 2, 3, 4, 5]), [])

    def test_a_move_that_gives_nothing(self):
        net = (2, (((1, 0), (0, 0)),))
        self.assertEqual(greatest_trap(net, [0, 1]), [1])
        self.assertIs(is_trap(net, [1]), True)
        self.assertIs(is_trap(net, [0]), False)
        self.assertIs(is_trap(net, [0, 1]), False)

    def test_a_move_that_takes_nothing(self):
        net = (2, (((0, 0), (1, 1)),))
        for places in sets_of([0, 1]):
            self.assertEqual(greatest_trap(net, places), places)
            self.assertIs(is_trap(net, places), True)

    def test_a_move_that_takes_and_gives_nothing(self):
        net = (2, (((0, 0), (0, 0)),))
        for places in sets_of([0, 1]):
            self.assertEqual(greatest_trap(net, places), places)
            self.assertIs(is_trap(net, places), True)

    def test_a_move_that_gives_back_what_it_takes(self):
        self.assertIs(is_trap((1, (((9,), (1,)),)), [0]), True)
        self.assertIs(is_trap((2, (((1, 1), (1, 0)),)), [0]), True)
        self.assertIs(is_trap((2, (((1, 1), (1, 0)),)), [1]), False)
        self.assertIs(is_trap((2, (((1, 1), (1, 0)),)), [0, 1]), True)

    def test_a_trap_that_has_a_token_keeps_one(self):
        for net in some_nets(72, 120, 4, 4, 2):
            for places in sets_of(range(net[0])):
                if is_trap(net, places):
                    self.check_keeps(net, places)

    def check_keeps(self, net, places):
        for hoard in itertools.product(range(3), repeat=net[0]):
            if has_at(hoard, places):
                for other in next_hoards(net, hoard).values():
                    self.assertTrue(has_at(other, places), (net, places, hoard))

    def test_what_is_no_trap_is_emptied_by_one_move(self):
        for net in some_nets(73, 120, 4, 4, 4):
            for places in sets_of(range(net[0])):
                if not is_trap(net, places):
                    emptied = [takes for takes, gives in net[1] if has_at(takes, places) and not has_at(gives, places)]
                    self.assertTrue(any(not has_at(hoard, places)
                                        for start in emptied for hoard in next_hoards(net, start).values()))


class Both(unittest.TestCase):
    def check(self, net, places):
        sinks = [each for each in sets_of(places) if plainly_sink(net, each)]
        traps = [each for each in sets_of(places) if plainly_trap(net, each)]
        for each in sets_of(places):
            self.assertIs(is_sink(net, each), each in sinks, (net, each))
            self.assertIs(is_trap(net, each), each in traps, (net, each))
        sink, trap = greatest_sink(net, places), greatest_trap(net, places)
        self.assertEqual(sink, in_all_of(sinks), (net, places))
        self.assertEqual(trap, in_all_of(traps), (net, places))
        for told in (sink, trap):
            self.assertIsInstance(told, list)
            self.assertEqual([place.__class__ for place in told], [int] * len(told))
        self.assertIs(is_sink(net, sink), True)
        self.assertIs(is_trap(net, trap), True)
        self.assertEqual(greatest_sink(net, sink), sink)
        self.assertEqual(greatest_trap(net, trap), trap)

    def test_samples(self):
        for net in (PAIR, BARE, FULL, ROUND, LEAK, STREAM, (6, ())):
            for places in sets_of(range(net[0])):
                self.check(net, places)

    def test_all_of_some_nets(self):
        for net in some_nets(74, 120, 3, 4, 2) + some_nets(75, 60, 4, 10, 9):
            for places in sets_of(range(net[0])):
                self.check(net, places)

    def test_some_greater_nets(self):
        for net in some_nets(76, 60, 6, 10, 9) + some_nets(77, 60, 6, 5, 1):
            self.check(net, list(range(net[0])))
            self.check(net, list(range(0, net[0], 2)))

    def test_no_places(self):
        for net in [PAIR, BARE, FULL, ROUND] + some_nets(78, 20, 6, 10, 9):
            self.assertEqual((greatest_sink(net, []), greatest_trap(net, [])), ([], []))
            self.assertEqual((is_sink(net, []), is_trap(net, [])), (True, True))

    def test_a_net_without_moves(self):
        for net in (BARE, (6, ())):
            for places in sets_of(range(net[0])):
                self.assertEqual((greatest_sink(net, places), greatest_trap(net, places)), (places, places))
                self.assertEqual((is_sink(net, places), is_trap(net, places)), (True, True))

    def test_six_places_and_ten_moves(self):
        self.assertEqual(greatest_sink(FULL, [0, 1, 2, 3, 4, 5]), [0, 1, 2, 3, 4, 5])
        self.assertEqual(greatest_sink(FULL, [1, 2, 5]), [2, 5])
        self.assertEqual(greatest_trap(FULL, [0, 2, 5]), [2, 5])
        self.assertEqual((is_sink(FULL, [0]), is_sink(FULL, [1])), (True, False))
        self.assertEqual((is_trap(FULL, [0]), is_trap(FULL, [1])), (False, True))
        self.assertEqual((is_sink(ROUND, [0, 1, 2, 3, 4, 5]), is_trap(ROUND, [0, 1, 2, 3, 4, 5])), (True, True))
        self.assertEqual((greatest_sink(ROUND, [0, 1, 2, 3, 4]), greatest_trap(ROUND, [1, 2, 3, 4, 5])), ([], []))

    def test_the_last_of_ten_moves_counts(self):
        net = (1, (((1,), (1,)),) * 9 + (((0,), (1,)),))
        self.assertEqual((is_sink(net, [0]), is_trap(net, [0])), (False, True))
        net = (1, (((1,), (1,)),) * 9 + (((1,), (0,)),))
        self.assertEqual((is_sink(net, [0]), is_trap(net, [0])), (True, False))

    def test_places_in_any_order_and_told_twice(self):
        for net in [LEAK, STREAM] + some_nets(79, 60, 3, 4, 2):
            for places in sets_of(range(net[0])):
                for order in itertools.permutations(places):
                    for told in (list(order), list(order) + places, list(order) * 3):
                        for each in ALL:
                            self.assertEqual(each(net, told), each(net, places), (net, told))

    def test_no_place(self):
        for thing in WRONG_PLACES + odd_things():
            for places in ([thing], [0, thing], [thing, 1], [0, 1, thing, 0]):
                for each in ALL:
                    with self.assertRaises(NoPlace):
                        each(PAIR, places)
        for each in ALL:
            for net, place in ((BARE, 1), (BARE, -1), (FULL, 6), (FULL, -1), (LEAK, 3)):
                with self.assertRaises(NoPlace):
                    each(net, [place])

    def test_places_are_a_list(self):
        for thing in odd_things() + [0, 1, (0,), (0, 1), "01", {0: 0}, {0}, range(2), iter([0]), Unpleasant()]:
            if thing.__class__ is not list:
                for each in ALL:
                    with self.assertRaises(NoPlace):
                        each(PAIR, thing)

    def test_no_net_goes_ahead_of_no_place(self):
        for net in WRONG_NETS + odd_things():
            for places in ([], [0], [9], None):
                for each in ALL:
                    with self.assertRaises(NoNet):
                        each(net, places)

    def test_nothing_is_changed(self):
        for places in ([], [0], [2, 0, 1, 2], [1, 0], [0, 7], (0,)):
            for each in ALL:
                net = copy.deepcopy(LEAK)
                kept = copy.deepcopy((net, places))
                try:
                    each(net, places)
                except TokenError:
                    pass
                self.assertEqual((net, places), kept)

    def test_a_new_list_each_time(self):
        for each in (greatest_sink, greatest_trap):
            for net, places in ((LEAK, [0, 1, 2]), (BARE, [0]), (BARE, []), (STREAM, [0]), (PAIR, [0, 1])):
                first = each(net, places)
                kept = list(first)
                self.assertIsNot(first, places)
                second = each(copy.deepcopy(net), list(places))
                self.assertIsNot(first, second)
                first.append(9)
                self.assertEqual(second, kept)
                self.assertEqual(each(net, places), kept)


if __name__ == "__main__":
    unittest.main()
