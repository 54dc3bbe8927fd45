"""The sill of a goal: the least hoards from which a run leads over it.

It is sought backwards from the goal, a stride at a time. A stride is a tuple (needs, gains): how many tokens each
place needs for it, and how many more lie there behind it (below nought: how many less). A move is a stride. So is a
ring of strides, made as often as one likes; a place that it heaps tokens up at gains None: however many are asked for.
Without rings a very great goal would be come down from by a few tokens at a time.
"""

from tokenwall.nets import checked, need_hoard, need_move, over


def stride_of(move):
    return (move[0], tuple([give - take for take, give in zip(move[0], move[1])]))


def number_before(need, gain, number):
    if gain is None:
        return need
    return max(need, number - gain)


# The least hoard at which the stride can be made and leads over the target.
def before(stride, target):
    return tuple([number_before(need, gain, number) for need, gain, number in zip(stride[0], stride[1], target)])


def least_before(net, move, goal):
    need_move(checked(net), move)
    need_hoard(net, goal)
    return before(stride_of(net[1][move]), goal)


# The path of strides, in the order in which they are made, leads from low over high, and high is over low. So it can be
# made again and again, and each time leaves more tokens wherever high has more than low.
def ring_stride(path, low, high):
    needs = tuple([0 for number in low])
    for stride in reversed(path):
        needs = before(stride, needs)
    gains = tuple([None if less < more else 0 for less, more in zip(low, high)])
    return (needs, gains)


def over_any(hoard, others):
    for other in others:
        if over(hoard, other):
            return True
    return False


# least: the least hoards found yet; waiting: those of them that no stride was taken back from yet; seen: whatever was
# found, so that nothing is weighed twice; ways: for each found hoard the stride and the hoard that it leads over.
class Search:
    def __init__(self, goal):
        self.least = {goal: True}
        self.waiting = {goal: True}
        self.seen = {goal: True}
        self.ways = {goal: (None, None)}
        self.turn = 0

    # The smallest hoard rules out the most others; but if it alone had its turn, a search from a very great goal could
    # go astray for ever, so each second turn is the oldest one's.
    def take_waiting(self):
        self.turn += 1
        if self.turn % 2 == 0:
            hoard = list(self.waiting)[0]
        else:
            hoard = min(self.waiting, key=sum)
        self.waiting.pop(hoard)
        return hoard

    # The way back by the stride, or by the ring that it closes with the ways before it.
    def way_back(self, stride, target):
        way = (stride, target)
        hoard = before(stride, target)
        path = [stride]
        while target is not None:
            if over(target, hoard):
                way = (ring_stride(path, hoard, target), target)
                hoard = before(way[0], target)
                path = [way[0]]
            further = self.ways[target]
            path.append(further[0])
            target = further[1]
        return way

    def keep(self, hoard, way):
        if over_any(hoard, self.least):
            return
        for other in list(self.least):
            if over(other, hoard):
                self.least.pop(other)
                self.waiting.pop(other, None)
        self.least[hoard] = True
        self.waiting[hoard] = True
        self.ways[hoard] = way

    def look_before(self, stride, target):
        hoard = before(stride, target)
        if hoard in self.seen or over(hoard, target):
            return
        self.seen[hoard] = True
        way = self.way_back(stride, target)
        self.keep(before(way[0], way[1]), way)


def sill(net, goal):
    need_hoard(net, goal)
    strides = [stride_of(move) for move in net[1]]
    search = Search(goal)
    while len(search.waiting) > 0:
        hoard = search.take_waiting()
        for stride in strides:
            # Once something below it is found, that has its turn in its place.
            if hoard in search.least:
                search.look_before(stride, hoard)
    return sorted(search.least)
