"""The sill of a goal: the least hoards from which a run leads over it.

It is sought backwards from the goal, a stride at a time. A stride is a tuple (needs, gains): how many tokens each
place needs for it, and how many more lie there behind it (below nought: how many less). A move is a stride. So is a
ring of strides, made as often as one likes; a place that it heaps tokens up at gains None: however many are asked for.
Without rings a very great goal would be come down from by a few tokens at a time.
"""

from tokenwall.nets import changes, checked, need_hoard, need_move, over


def stride_of(move):
    return (move[0], changes(move))


def number_before(need, gain, number):
    if gain is None:
        return need
    return max(need, number - gain)


# The least hoard at which the stride can be made and leads over the target.
def before(stride, target):
    return tuple([number_before(need, gain, number) for need, gain, number in zip(stride[0], stride[1], target)])


def least_before(net, move, goal):
    need_move(checked(net), move)
    need_hoard(net, goal)
    return before(stride_of(net[1][move]), goal)


# The path of strides, in the order in which they are made, leads from low over high, and high is over low. So it can be
# made again and again, and each time leaves more tokens wherever high has more than low.
def ring_stride(path, low, high):
    needs = tuple([0 for number in low])
    for stride in reversed(path):
        needs = before(stride, needs)
    gains = tuple([None if less < more else 0 for less, more in zip(low, high)])
    return (needs, gains)


# Hoards, each with a mark of its own: a number of one bit. For each place and each number of tokens there, the marks of
# all hoards with that number are kept as one sum: so a hoard is weighed against all of them at once, not one by one.
class Pile:
    def __init__(self, places):
        self.marks = {}
        self.marked = {}
        self.free = []
        self.fresh = 1
        self.sums = [{} for place in range(places)]

    def has(self, hoard):
        return hoard in self.marks

    def take_mark(self):
        if len(self.free) > 0:
            return self.free.pop()
        mark = self.fresh
        self.fresh = mark + mark
        return mark

    def add(self, hoard):
        mark = self.take_mark()
        self.marks[hoard] = mark
        self.marked[mark] = hoard
        for number, by_number in zip(hoard, self.sums):
            by_number[number] = by_number.get(number, 0) | mark

    def remove(self, hoard):
        mark = self.marks.pop(hoard)
        self.marked.pop(mark)
        self.free.append(mark)
        for number, by_number in zip(hoard, self.sums):
            by_number[number] ^= mark
            if by_number[number] == 0:
                by_number.pop(number)

    # The sum of the marks of those that the hoard is over.
    def below(self, hoard):
        found = -1
        for most, by_number in zip(hoard, self.sums):
            fitting = 0
            for number, marks in by_number.items():
                if number <= most:
                    fitting |= marks
            found &= fitting
        return found

    # The sum of the marks of those that are over the hoard.
    def above(self, hoard):
        found = -1
        for least, by_number in zip(hoard, self.sums):
            fitting = 0
            for number, marks in by_number.items():
                if number >= least:
                    fitting |= marks
            found &= fitting
        return found

    def one_of(self, found):
        return self.marked[found & -found]

    def hoards_of(self, found):
        hoards = []
        while found != 0:
            hoard = self.one_of(found)
            hoards.append(hoard)
            found ^= self.marks[hoard]
        return hoards

    def rising(self):
        return sorted(self.marks)


# least: the least hoards found yet; waiting: those of them that no stride was taken back from yet; seen: whatever was
# found, so that nothing is weighed twice; ways: for each found hoard the stride and the hoard that it leads over.
class Search:
    def __init__(self, net, goal):
        self.strides = [stride_of(move) for move in net[1]]
        self.least = Pile(net[0])
        self.least.add(goal)
        self.waiting = {goal: True}
        self.seen = {goal: True}
        self.ways = {goal: (None, None)}
        self.turn = 0

    # The smallest hoard rules out the most others; but if it alone had its turn, a search from a very great goal could
    # go astray for ever, so each second turn is the oldest one's.
    def take_waiting(self):
        self.turn += 1
        if self.turn % 2 == 0:
            hoard = list(self.waiting)[0]
        else:
            hoard = min(self.waiting, key=sum)
        self.waiting.pop(hoard)
        return hoard

    # The way back by the stride, or by the ring that it closes with the ways before it.
    def way_back(self, stride, target):
        way = (stride, target)
        hoard = before(stride, target)
        path = [stride]
        while target is not None:
            if over(target, hoard):
                way = (ring_stride(path, hoard, target), target)
                hoard = before(way[0], target)
                path = [way[0]]
            further = self.ways[target]
            path.append(further[0])
            target = further[1]
        return way

    def keep(self, hoard, way):
        if self.leads_from(hoard):
            return
        above = self.least.hoards_of(self.least.above(hoard))
        for other in above:
            self.least.remove(other)
            self.waiting.pop(other, None)
        self.least.add(hoard)
        self.waiting[hoard] = True
        self.ways[hoard] = way

    def look_before(self, stride, target):
        hoard = before(stride, target)
        if hoard in self.seen or over(hoard, target):
            return
        self.seen[hoard] = True
        way = self.way_back(stride, target)
        self.keep(before(way[0], way[1]), way)

    # Whether the hoard is over one that a run over the goal was found from.
    def leads_from(self, hoard):
        return self.least.below(hoard) != 0

    def is_done(self):
        return len(self.waiting) == 0

    def step(self):
        hoard = self.take_waiting()
        for stride in self.strides:
            # Once something below it is found, that has its turn in its place.
            if self.least.has(hoard):
                self.look_before(stride, hoard)

    def go_on(self, steps):
        for turn in range(steps):
            if self.is_done():
                return
            self.step()

    def finished(self):
        while not self.is_done():
            self.step()
        return self.least.rising()


def sill(net, goal):
    need_hoard(net, goal)
    return Search(net, goal).finished()
