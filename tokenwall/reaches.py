"""All that can come of a start, or a pump that heaps up tokens for ever.

Hoards are sought wide, the oldest ones first, so that each is found by its shortest run; if that comes to an end, all
are found. A hoard that is over one on the way to it shows a pump, and on a way without end there is always one such.
Hoards are sought near the start, too, those first that lack the least of what it has: that comes to a long ring where
wide there are too many hoards ahead of it. Looking back along long ways takes long, so on this and on what is near no
more work is spent than on going wide: hoards that do have an end come to it almost as soon as if no pump were sought.
"""

from tokenwall.errors import Endless
from tokenwall.nets import after_move, need_hoard, need_place, over


def lacking(hoard, start):
    return sum([max(0, had - number) for number, had in zip(hoard, start)])


# ways: for each found hoard the move and the hoard by which it was found; spare: how much work is still allowed.
class Tree:
    def __init__(self, net, start):
        self.moves = net[1]
        self.ways = {start: None}
        self.spare = 0

    def widen(self, hoard):
        found = []
        for number, move in enumerate(self.moves):
            if over(hoard, move[0]):
                other = after_move(hoard, move)
                if other not in self.ways:
                    self.ways[other] = (number, hoard)
                    found.append(other)
        return found

    def moves_to(self, hoard):
        moves = []
        way = self.ways[hoard]
        while way is not None:
            moves.append(way[0])
            way = self.ways[way[1]]
        return list(reversed(moves))

    def pump_between(self, low, high):
        run = self.moves_to(low)
        return (run, self.moves_to(high)[len(run):])

    def pump_to(self, hoard):
        way = self.ways[hoard]
        while way is not None:
            self.spare -= 1
            if over(hoard, way[1]):
                return self.pump_between(way[1], hoard)
            way = self.ways[way[1]]
        return None


# found: all hoards of the wide tree in the order in which they were found; of these so many were widened, and from so
# many was looked back. waiting: by how much they lack, the hoards of the near tree that are still to be widened.
# pump: a run and a ring, once there is one.
class Reach:
    def __init__(self, net, start):
        self.start = start
        self.wide = Tree(net, start)
        self.found = [start]
        self.widened = 0
        self.looked = 0
        self.near = Tree(net, start)
        self.waiting = {0: [start]}
        self.pump = None

    def go_wide(self):
        self.found.extend(self.wide.widen(self.found[self.widened]))
        self.widened += 1

    def look_back(self):
        while self.pump is None and self.wide.spare > 0 and self.looked < len(self.found):
            self.pump = self.wide.pump_to(self.found[self.looked])
            self.looked += 1

    def take_nearest(self):
        least = min(self.waiting)
        hoard = self.waiting[least].pop()
        if len(self.waiting[least]) == 0:
            self.waiting.pop(least)
        return hoard

    def go_near(self):
        while self.pump is None and self.near.spare > 0 and len(self.waiting) > 0:
            found = self.near.widen(self.take_nearest())
            self.near.spare -= len(self.near.moves)
            for hoard in found:
                if self.pump is None:
                    self.pump = self.near.pump_to(hoard)
                    self.waiting.setdefault(lacking(hoard, self.start), []).append(hoard)

    def explore(self):
        work = len(self.wide.moves)
        while self.pump is None and self.widened < len(self.found):
            self.go_wide()
            self.wide.spare += work
            self.look_back()
            self.near.spare += work
            self.go_near()


def explored(net, start):
    reach = Reach(net, start)
    reach.explore()
    return reach


def all_of(net, start):
    need_hoard(net, start)
    reach = explored(net, start)
    if reach.pump is not None:
        return ("pump", reach.pump[0], reach.pump[1])
    return ("all", sorted(reach.found))


def ended(net, start):
    reach = explored(net, start)
    if reach.pump is not None:
        raise Endless("hoards come without end")
    return reach


def how_far(net, start, place):
    need_hoard(net, start)
    need_place(net, place)
    return max([hoard[place] for hoard in ended(net, start).found])


# Hoards were found by shorter runs first, by runs of one length in order of these: so each way is the first one.
def run_to(net, start, goal):
    need_hoard(net, start)
    need_hoard(net, goal)
    reach = ended(net, start)
    if goal not in reach.wide.ways:
        return None
    return reach.wide.moves_to(goal)


def is_stuck(net, hoard):
    for move in net[1]:
        if over(hoard, move[0]):
            return False
    return True


def stuck_hoards(net, start):
    need_hoard(net, start)
    return sorted([hoard for hoard in ended(net, start).found if is_stuck(net, hoard)])
