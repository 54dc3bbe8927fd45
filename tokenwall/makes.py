"""Nets made of nets: one turned about, two beside one another, one with a place taken out."""

from tokenwall.errors import TooBig
from tokenwall.nets import checked, is_net, need_place


def turned(net):
    return (checked(net)[0], tuple([(gives, takes) for takes, gives in net[1]]))


# The move in a net that has so many places ahead of its own, and so many behind them.
def moved_in(move, ahead, after):
    return tuple([(0,) * ahead + row + (0,) * after for row in move])


def beside(one, other):
    first = checked(one)[0]
    second = checked(other)[0]
    moves = [moved_in(move, 0, second) for move in one[1]] + [moved_in(move, first, 0) for move in other[1]]
    net = (first + second, tuple(moves))
    # Of two nets nothing but too many places or moves makes what is no net.
    if not is_net(net):
        raise TooBig("together the two have too many places or moves for a net")
    return net


def taken_out(row, place):
    return row[:place] + row[place + 1:]


def without_place(net, place):
    need_place(checked(net), place)
    if net[0] == 1:
        raise TooBig("the only place of a net can't be taken out")
    return (net[0] - 1, tuple([(taken_out(takes, place), taken_out(gives, place)) for takes, gives in net[1]]))
