"""The whole interface in one view: names and arguments, what is refused and in which order, and that nothing handed in
is changed."""

import copy
import importlib
import inspect
import itertools
import unittest

from samples import BARE, FULL, GREAT, PAIR, WRONG_HOARDS, WRONG_NETS, WRONG_PLACES, odd_things
from tokenwall.errors import Endless, NoHoard, NoMove, NoNet, NoPlace, NoText, Stuck, TokenError, TooBig

# Of each kind of argument: what refuses it, and things that are none, for the net PAIR.
WRONG = {
    "net": (NoNet, WRONG_NETS + odd_things()),
    "hoard": (NoHoard, WRONG_HOARDS + odd_things()),
    "move": (NoMove, [2, 10, -1, GREAT, -GREAT, [0], (0,)] + odd_things()),
    "run": (NoMove, [[2], [-1], [0, True], [0, None], [0, 2], [0, [0]], ["0"], (0,), 0, GREAT] + odd_things()),
    "place": (NoPlace, WRONG_PLACES + odd_things()),
    "places": (NoPlace, [[2], [-1], [0, True], [0, None], [0, 2], [0, [0]], ["0"], (0,), 0, GREAT] + odd_things()),
    "text": (NoText, ["", "7", "2 ", " 2", "2 ; 1 0 > 0", 2, ["2"], PAIR]
             + [thing for thing in odd_things() if thing.__class__ is not str]),
}

# Module, name, names of the arguments, their kinds and something good of each; the refusals as they are named, but
# NoNet, which goes ahead of all.
INTERFACE = [
    ("nets", "checked", ("net",), ("net",), (PAIR,), ()),
    ("nets", "is_hoard", ("net", "thing"), ("net", "free"), (PAIR, (0, 0)), ()),
    ("nets", "can", ("net", "hoard", "move"), ("net", "hoard", "move"), (PAIR, (5, 5), 1), (NoHoard, NoMove)),
    ("nets", "behind", ("net", "hoard", "run"), ("net", "hoard", "run"), (PAIR, (5, 5), [0, 1]),
     (NoHoard, NoMove, Stuck)),
    ("nets", "over", ("one", "other"), ("free", "free"), ((1, 2), (0, 2)), ()),
    ("sills", "sill", ("net", "goal"), ("net", "hoard"), (PAIR, (3, 3)), (NoHoard,)),
    ("sills", "least_before", ("net", "move", "goal"), ("net", "move", "hoard"), (PAIR, 1, (3, 3)), (NoMove, NoHoard)),
    ("covers", "cover", ("net", "start", "goal"), ("net", "hoard", "hoard"), (PAIR, (2, 0), (3, 3)), (NoHoard,)),
    ("covers", "together", ("net", "start", "places"), ("net", "hoard", "places"), (PAIR, (2, 0), [1, 0, 1]),
     (NoHoard, NoPlace)),
    ("reaches", "all_of", ("net", "start"), ("net", "hoard"), (PAIR, (1, 0)), (NoHoard,)),
    ("reaches", "how_far", ("net", "start", "place"), ("net", "hoard", "place"), (PAIR, (1, 0), 1),
     (NoHoard, NoPlace, Endless)),
    ("reaches", "run_to", ("net", "start", "goal"), ("net", "hoard", "hoard"), (PAIR, (1, 0), (0, 1)),
     (NoHoard, Endless)),
    ("reaches", "stuck_hoards", ("net", "start"), ("net", "hoard"), (PAIR, (1, 0)), (NoHoard, Endless)),
    ("weights", "kept_weights", ("net",), ("net",), (PAIR,), ()),
    ("weights", "round_counts", ("net",), ("net",), (PAIR,), ()),
    ("weights", "weight", ("weights", "hoard"), ("free", "free"), ([1, -2], (3, 4)), ()),
    ("stays", "greatest_sink", ("net", "places"), ("net", "places"), (PAIR, [1, 0, 1]), (NoPlace,)),
    ("stays", "greatest_trap", ("net", "places"), ("net", "places"), (PAIR, [1, 0, 1]), (NoPlace,)),
    ("stays", "is_sink", ("net", "places"), ("net", "places"), (PAIR, [1, 0, 1]), (NoPlace,)),
    ("stays", "is_trap", ("net", "places"), ("net", "places"), (PAIR, [1, 0, 1]), (NoPlace,)),
    ("makes", "turned", ("net",), ("net",), (PAIR,), ()),
    ("makes", "beside", ("one", "other"), ("net", "net"), (PAIR, BARE), (TooBig,)),
    ("makes", "without_place", ("net", "place"), ("net", "place"), (PAIR, 1), (NoPlace, TooBig)),
    ("texts", "shown", ("net",), ("net",), (PAIR,), ()),
    ("texts", "read", ("text",), ("text",), ("2 ; 1 0 > 0 1",), (NoText,)),
]

# Arguments that are each good by themselves, and what is refused of them together.
TOGETHER_REFUSED = [
    ("nets", "behind", (PAIR, (0, 0), [0]), Stuck),
    ("reaches", "how_far", (PAIR, (2, 0), 1), Endless),
    ("reaches", "run_to", (PAIR, (2, 0), (2, 0)), Endless),
    ("reaches", "stuck_hoards", (PAIR, (2, 0)), Endless),
    ("makes", "beside", (FULL, BARE), TooBig),
    ("makes", "without_place", (BARE, 0), TooBig),
]


def function(module, name):
    return getattr(importlib.import_module("tokenwall." + module), name)


def rows():
    return [(function(module, name), kinds, good, (NoNet,) + refusals)
            for module, name, names, kinds, good, refusals in INTERFACE]


def wrong_ones(kind, most=None):
    return WRONG[kind][1][:most] if kind in WRONG else []


def answer(each, things):
    try:
        return each(*things)
    except TokenError as refusal:
        return refusal.__class__


class Interface(unittest.TestCase):
    def test_names_and_arguments(self):
        for module, name, names, kinds, good, refusals in INTERFACE:
            signature = inspect.signature(function(module, name))
            self.assertEqual(tuple(signature.parameters), names, name)
            for each in signature.parameters.values():
                self.assertEqual((each.kind, each.default), (each.POSITIONAL_OR_KEYWORD, each.empty), name)

    def test_arguments_by_name(self):
        for module, name, names, kinds, good, refusals in INTERFACE:
            each = function(module, name)
            self.assertEqual(each(**dict(zip(names, good))), each(*good), name)

    def test_each_is_defined_where_it_is_told(self):
        for module, name, names, kinds, good, refusals in INTERFACE:
            self.assertEqual(function(module, name).__module__, "tokenwall." + module)

    def test_good_things_are_not_refused(self):
        for each, kinds, good, refusals in rows():
            each(*good)


class Refusals(unittest.TestCase):
    def refuses(self, each, things, refusal):
        self.assertIs(answer(each, things), refusal, (each.__name__, len(things)))

    def test_each_wrong_thing_by_itself(self):
        for each, kinds, good, refusals in rows():
            for at, kind in enumerate(kinds):
                for thing in wrong_ones(kind):
                    self.refuses(each, good[:at] + (thing,) + good[at + 1:], WRONG[kind][0])

    def test_of_two_wrong_things_the_one_that_is_named_first(self):
        for each, kinds, good, refusals in rows():
            for first, second in itertools.combinations(range(len(kinds)), 2):
                expected = self.first_named(refusals, [kinds[first], kinds[second]])
                for one, other in itertools.product(wrong_ones(kinds[first]), wrong_ones(kinds[second])):
                    things = list(good)
                    things[first], things[second] = one, other
                    self.refuses(each, tuple(things), expected)

    def test_of_three_wrong_things_the_one_that_is_named_first(self):
        for each, kinds, good, refusals in rows():
            if len(kinds) == 3:
                for things in itertools.product(*[wrong_ones(kind, 9) for kind in kinds]):
                    self.refuses(each, things, self.first_named(refusals, kinds))

    def first_named(self, refusals, kinds):
        return min((WRONG[kind][0] for kind in kinds if kind in WRONG), key=refusals.index, default=None)

    def test_good_things_that_are_refused_together(self):
        for module, name, things, refusal in TOGETHER_REFUSED:
            self.refuses(function(module, name), things, refusal)

    def test_what_is_refused_together_comes_behind_what_is_wrong_by_itself(self):
        told = {(module, name): kinds for module, name, names, kinds, good, refusals in INTERFACE}
        for module, name, things, refusal in TOGETHER_REFUSED:
            for at, kind in enumerate(told[(module, name)]):
                for thing in wrong_ones(kind):
                    self.refuses(function(module, name), things[:at] + (thing,) + things[at + 1:], WRONG[kind][0])

    def test_every_refusal_of_each_function_was_looked_at(self):
        looked = {(each.__name__, WRONG[kind][0]) for each, kinds, good, refusals in rows()
                  for kind in kinds if kind in WRONG}
        looked.update((name, refusal) for module, name, things, refusal in TOGETHER_REFUSED)
        for module, name, names, kinds, good, refusals in INTERFACE:
            for refusal in refusals:
                self.assertIn((name, refusal), looked)

    def test_token_error_and_value_error_take_them_all(self):
        for each, kinds, good, refusals in rows():
            for at, kind in enumerate(kinds):
                for thing in wrong_ones(kind, 1):
                    for taken in (TokenError, ValueError):
                        with self.assertRaises(taken):
                            each(*(good[:at] + (thing,) + good[at + 1:]))

    def test_is_hoard_tells_false_and_refuses_nothing_but_nets(self):
        is_hoard = function("nets", "is_hoard")
        for thing in wrong_ones("hoard"):
            self.assertIs(is_hoard(PAIR, thing), False)
            self.refuses(is_hoard, (None, thing), NoNet)


class Kept(unittest.TestCase):
    def cases(self):
        for each, kinds, good, refusals in rows():
            yield each, good
            for at, kind in enumerate(kinds):
                for thing in wrong_ones(kind, 12):
                    yield each, good[:at] + (thing,) + good[at + 1:]
        for module, name, things, refusal in TOGETHER_REFUSED:
            yield function(module, name), things

    def test_nothing_that_is_handed_in_is_changed(self):
        for each, things in self.cases():
            handed = copy.deepcopy(things)
            answer(each, handed)
            self.assertEqual(handed, things, each.__name__)

    def test_equal_things_give_equal_answers(self):
        for each, things in self.cases():
            first = answer(each, copy.deepcopy(things))
            self.assertEqual(answer(each, copy.deepcopy(things)), first, each.__name__)
            self.assertEqual(answer(each, things), first, each.__name__)

    def test_lists_that_are_told_are_new_ones(self):
        for each, things in self.cases():
            first = answer(each, things)
            kept = copy.deepcopy(first)
            second = answer(each, things)
            for one in self.lists_in(first):
                for other in self.lists_in(second) + self.lists_in(things):
                    self.assertIsNot(one, other, each.__name__)
            for one in self.lists_in(first):
                one.append(None)
            self.assertEqual(second, kept, each.__name__)
            self.assertEqual(answer(each, things), kept, each.__name__)

    def lists_in(self, thing):
        found = [thing] if isinstance(thing, list) else []
        if isinstance(thing, (list, tuple)):
            for part in thing:
                found.extend(self.lists_in(part))
        return found


if __name__ == "__main__":
    unittest.main()
