"""Nets and wrong things that several tests use."""

import random

# Place 0 passes its tokens on to place 1, two of those make three of place 0.
PAIR = (2, (((1, 0), (0, 1)), ((0, 2), (3, 0))))

# Neither moves nor more than one place.
BARE = (1, ())

# As great as a net can be, with 0 and 9 in its moves.
FULL = (6, (((9, 0, 0, 0, 0, 0), (0, 9, 0, 0, 0, 0)),) * 10)

GREAT = 10 ** 5000


class Unlike:
    """A thing of no kind that is told."""


class Unpleasant:
    """A thing that can't be compared, counted or walked."""

    def refuse(self, *rest):
        raise RuntimeError("this was asked for something")

    __eq__ = __lt__ = __le__ = __gt__ = __ge__ = __len__ = __iter__ = __bool__ = __index__ = __hash__ = refuse


def odd_things():
    """Things that are neither a net nor a hoard nor a number of a move nor a run."""
    return [None, True, False, -1, 10, 1.0, 0.5, float("nan"), 1j, "", "0", "1", b"1", {}, {0: 0}, set(),
            frozenset([0]), range(2), object(), Unlike(), Unlike, Unpleasant(), len, (), ((),), [[]], [()]]


def some_net(dice, places, moves, most):
    def row():
        return tuple(dice.choice((0, 0, dice.randint(0, most))) for place in range(places))
    return (places, tuple((row(), row()) for move in range(moves)))


def some_nets(seed, count, places, moves, most):
    """Nets by a fixed seed, so each time the same ones."""
    dice = random.Random(seed)
    return [some_net(dice, dice.randint(1, places), dice.randint(0, moves), most) for each in range(count)]
