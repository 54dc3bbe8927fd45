"""Coming over a goal: a shortest run that does, or the wall that no run comes through.

The run is sought from both ends, a layer at a time: from the start by the moves that can be made, from the goal by the
least hoards before it. Each time the end with the smaller layer is widened, until a hoard of the one layer is over a
hoard of the other one. The sill is sought beside it, so that neither a run nor a wall is waited for in vain.
"""

from tokenwall.nets import after_move, need_hoard, need_places, over
from tokenwall.sills import Pile, Search, before, stride_of


# One end of a run: the start, from which the way goes ahead, or the goal. Ahead, hoards with more tokens are better,
# for whatever fewer can do they can do; from the goal, hoards with fewer. best: the hoards found yet but those that are
# no better than another one; layer: those of them that were found last, all of them as many moves from this end;
# ways: for each found hoard the move and the hoard by which it was found.
class End:
    def __init__(self, net, hoard, ahead):
        self.moves = net[1]
        self.ahead = ahead
        self.best = Pile(net[0])
        self.best.add(hoard)
        self.layer = [hoard]
        self.ways = {hoard: None}

    def one_move_on(self, hoard):
        if self.ahead:
            return [(number, after_move(hoard, move)) for number, move in enumerate(self.moves) if over(hoard, move[0])]
        return [(number, before(stride_of(move), hoard)) for number, move in enumerate(self.moves)]

    # One of the best hoards that is no worse than this one, or None.
    def better(self, hoard):
        found = self.best.above(hoard) if self.ahead else self.best.below(hoard)
        return None if found == 0 else self.best.one_of(found)

    def keep(self, hoard):
        found = self.best.below(hoard) if self.ahead else self.best.above(hoard)
        worse = self.best.hoards_of(found)
        for other in worse:
            self.best.remove(other)
        self.best.add(hoard)

    def widen(self):
        found = []
        for hoard in self.layer:
            for number, other in self.one_move_on(hoard):
                if other not in self.ways:
                    self.ways[other] = (number, hoard)
                    if self.better(other) is None:
                        self.keep(other)
                        found.append(other)
        self.layer = [hoard for hoard in found if self.best.has(hoard)]

    # The moves between the hoard and this end, the hoard's first.
    def moves_from(self, hoard):
        moves = []
        way = self.ways[hoard]
        while way is not None:
            moves.append(way[0])
            way = self.ways[way[1]]
        return moves


def run_through(ahead, high, back, low):
    return list(reversed(ahead.moves_from(high))) + back.moves_from(low)


# The ends meet where a hoard from the start is over one from the goal. They are asked each time that one of them was
# widened by one move, so the first run is a shortest one.
def run_between(ahead, back):
    if len(ahead.layer) < len(back.layer):
        for high in ahead.layer:
            low = back.better(high)
            if low is not None:
                return run_through(ahead, high, back, low)
    else:
        for low in back.layer:
            high = ahead.better(low)
            if high is not None:
                return run_through(ahead, high, back, low)
    return None


# Once the start is known to lead over the goal, the rest of the sill is not asked for.
def shuts_out(search, start, steps):
    if search.leads_from(start):
        return False
    search.go_on(steps)
    return search.is_done() and not search.leads_from(start)


def cover(net, start, goal):
    need_hoard(net, start)
    need_hoard(net, goal)
    ahead = End(net, start, True)
    back = End(net, goal, False)
    search = Search(net, goal)
    run = run_between(ahead, back)
    while run is None:
        end = ahead if len(ahead.layer) < len(back.layer) else back
        if len(end.layer) == 0 or shuts_out(search, start, len(end.layer)):
            return ("wall", search.finished())
        end.widen()
        run = run_between(ahead, back)
    return ("run", run)


# No run is told here, so none is sought to its end: it is enough that the start is over some hoard of the sill.
def comes_over(net, start, goal):
    ahead = End(net, start, True)
    search = Search(net, goal)
    while not search.leads_from(start) and ahead.better(goal) is None:
        if len(ahead.layer) == 0 or shuts_out(search, start, len(ahead.layer)):
            return False
        ahead.widen()
    return True


def together(net, start, places):
    need_hoard(net, start)
    need_places(net, places)
    return comes_over(net, start, tuple([1 if place in places else 0 for place in range(net[0])]))
