"""Nets, wrong things and plain ways to find answers that several tests use."""

import random

# Place 0 passes its tokens on to place 1, two of those make three of place 0.
PAIR = (2, (((1, 0), (0, 1)), ((0, 2), (3, 0))))

# Neither moves nor more than one place.
BARE = (1, ())

# As great as a net can be, with 0 and 9 in its moves.
FULL = (6, (((9, 0, 0, 0, 0, 0), (0, 9, 0, 0, 0, 0)),) * 10)

# Six places in a ring, on which tokens are passed on one by one.
ROUND = (6, tuple((tuple(int(each == place) for each in range(6)), tuple(int(each == place + 1) for each in range(6)))
                  for place in range(5)) + (((0, 0, 0, 0, 0, 1), (1, 0, 0, 0, 0, 0)),))

GREAT = 10 ** 5000

WRONG_NETS = [None, (0, ()), [2, PAIR[1]], (2, list(PAIR[1])), (7, ()), (True, ()), "2"]

# What is no hoard of a net of two places.
WRONG_HOARDS = [None, True, 0, "00", [], [0, 0], (), (0,), (0, 0, 0), (-1, 0), (0, -1), (True, 0), (0, False),
                (0, None), ("0", "0"), (0.0, 0)]

# What is no place of a net of two places.
WRONG_PLACES = [None, True, False, -1, 2, 6, GREAT, -GREAT, "0", 0.0, (0,), [0], {}]


class Unlike:
    """A thing of no kind that is told."""


class Unpleasant:
    """A thing that can't be compared, counted or walked."""

    def refuse(self, *rest):
        raise RuntimeError("this was asked for something")

    __eq__ = __lt__ = __le__ = __gt__ = __ge__ = __len__ = __iter__ = __bool__ = __index__ = __hash__ = refuse


def odd_things():
    """Things that are neither a net nor a hoard nor a number of a move nor a run."""
    return [None, True, False, -1, 10, 1.0, 0.5, float("nan"), 1j, "", "0", "1", b"1", {}, {0: 0}, set(),
            frozenset([0]), range(2), object(), Unlike(), Unlike, Unpleasant(), len, (), ((),), [[]], [()]]


def some_net(dice, places, moves, most):
    def row():
        return tuple(dice.choice((0, 0, dice.randint(0, most))) for place in range(places))
    return (places, tuple((row(), row()) for move in range(moves)))


def some_nets(seed, count, places, moves, most):
    """Nets by a fixed seed, so each time the same ones."""
    dice = random.Random(seed)
    return [some_net(dice, dice.randint(1, places), dice.randint(0, moves), most) for each in range(count)]


def is_over(one, other):
    return all(number >= least for number, least in zip(one, other))


def next_hoards(net, hoard):
    """For each move that can be made the hoard that it leads to."""
    return {number: tuple(a - b + c for a, b, c in zip(hoard, takes, gives))
            for number, (takes, gives) in enumerate(net[1]) if is_over(hoard, takes)}


def plain_sill(net, goal):
    """The sill by the plainest way: all that lies one move before, until nothing new comes of it."""
    least = [goal]
    while True:
        found = set(least)
        for hoard in least:
            for takes, gives in net[1]:
                found.add(tuple(a + max(0, c - b) for a, b, c in zip(takes, gives, hoard)))
        lower = sorted(one for one in found if not any(is_over(one, other) and one != other for other in found))
        if lower == sorted(least):
            return lower
        least = lower


def layers(net, start, count):
    """What runs of no moves, one move and so on lead to and shorter ones don't, so many layers at most."""
    found = {start}
    layer = {start}
    while layer and count > 0:
        yield layer
        count -= 1
        layer = {hoard for one in layer for hoard in next_hoards(net, one).values()} - found
        found |= layer


def plain_reach(net, start):
    """All hoards that runs lead to, or None if there are hoards without end, by a plain walk over all runs."""
    found = set()
    waiting = [(start, ())]
    while waiting:
        hoard, way = waiting.pop(0)
        if any(is_over(hoard, other) and hoard != other for other in way):
            return None
        if hoard not in found:
            found.add(hoard)
            waiting.extend((other, way + (hoard,)) for other in next_hoards(net, hoard).values())
    return found
