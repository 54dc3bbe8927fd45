"""Nets, their hoards, and the moves and runs that are made at these.

A net is a tuple (places, moves), a move a tuple (takes, gives), a hoard a tuple of one number for each place.
"""

from tokenwall.errors import NoHoard, NoMove, NoNet, NoPlace, Stuck

MOST_PLACES = 6
MOST_MOVES = 10
MOST_TOKENS = 9


# Python counts True and False as 1 and 0; here they are no numbers.
def is_whole(thing):
    return isinstance(thing, int) and not isinstance(thing, bool)


def is_row(thing, places):
    if not isinstance(thing, tuple) or len(thing) != places:
        return False
    for number in thing:
        if not is_whole(number) or number < 0:
            return False
    return True


def is_move(thing, places):
    if not isinstance(thing, tuple) or len(thing) != 2:
        return False
    for row in thing:
        if not is_row(row, places) or max(row) > MOST_TOKENS:
            return False
    return True


def is_net(thing):
    if not isinstance(thing, tuple) or len(thing) != 2:
        return False
    places = thing[0]
    moves = thing[1]
    if not is_whole(places) or places < 1 or places > MOST_PLACES:
        return False
    if not isinstance(moves, tuple) or len(moves) > MOST_MOVES:
        return False
    for move in moves:
        if not is_move(move, places):
            return False
    return True


def checked(net):
    if not is_net(net):
        raise NoNet("this is no net")
    return net


def is_hoard(net, thing):
    return is_row(thing, checked(net)[0])


# The words leave out what was handed in: Python refuses to write out very great numbers.
def need_hoard(net, thing):
    if not is_hoard(net, thing):
        raise NoHoard("this is no hoard of the net")


# Runs are long: the net is looked through by the caller, once, not here for each move again.
def need_move(net, thing):
    if not is_whole(thing) or thing < 0 or thing >= len(net[1]):
        raise NoMove("this is no number of a move of the net")


def need_run(net, thing):
    if not isinstance(thing, list):
        raise NoMove("a run is a list of numbers of moves")
    for move in thing:
        need_move(net, move)


def need_place(net, thing):
    if not is_whole(thing) or thing < 0 or thing >= net[0]:
        raise NoPlace("this is no place of the net")


def need_places(net, thing):
    if not isinstance(thing, list):
        raise NoPlace("places are told as a list")
    for place in thing:
        need_place(net, place)


def over(one, other):
    for number, least in zip(one, other):
        if number < least:
            return False
    return True


def can(net, hoard, move):
    need_hoard(net, hoard)
    need_move(net, move)
    return over(hoard, net[1][move][0])


# How many tokens more a move leaves at each place, below nought: how many less.
def changes(move):
    return tuple([give - take for take, give in zip(move[0], move[1])])


def after_move(hoard, move):
    return tuple([number - take + give for number, take, give in zip(hoard, move[0], move[1])])


def behind(net, hoard, run):
    need_hoard(net, hoard)
    # The whole run is looked through first: NoMove goes ahead of Stuck.
    need_run(net, run)
    here = hoard
    for at, number in enumerate(run):
        move = net[1][number]
        if not over(here, move[0]):
            raise Stuck(at)
        here = after_move(here, move)
    return here
