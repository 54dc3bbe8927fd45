"""Weights of places that all moves keep, and counts of moves that go round.

Both tell how rows of numbers add up to noughts, each row taken so often. For weights there is a row for each place,
with what each move changes there; for counts a row for each move, with what it changes at each place.
"""

from tokenwall.nets import changes, checked


def shared_divisor(one, other):
    while other != 0:
        rest = one % other
        one = other
        other = rest
    return abs(one)


# The row, which has not noughts alone, with no divisor that all its numbers share and its first number above nought.
def told_row(row):
    divisor = 0
    for number in row:
        divisor = shared_divisor(divisor, number)
    if [number for number in row if number != 0][0] < 0:
        divisor = -divisor
    return [number // divisor for number in row]


# The row with so much of the lead added that there is nought at the place.
def cleared(row, lead, place):
    return told_row([number * lead[place] - part * row[place] for number, part in zip(row, lead)])


# Rows with the same sums, told as a ground is told. None of those handed in may be a sum of the others.
def ground(rows, width):
    done = []
    rest = [told_row(row) for row in rows]
    for place in range(width):
        leads = [row for row in rest if row[place] != 0]
        if len(leads) > 0:
            lead = leads[0]
            rest = [cleared(row, lead, place) for row in rest if row != lead]
            done = [cleared(row, lead, place) for row in done]
            done.append(lead)
    return done


def unit(at, length):
    return [1 if other == at else 0 for other in range(length)]


# Behind each row stands of which rows it is a sum: where the row has come to noughts, that tells how it did.
def ways_to_noughts(rows, width):
    marked = [row + unit(at, len(rows)) for at, row in enumerate(rows)]
    return [row[width:] for row in ground(marked, width + len(rows)) if not any(row[:width])]


def kept_weights(net):
    moves = [changes(move) for move in checked(net)[1]]
    rows = []
    for place in range(net[0]):
        rows.append([change[place] for change in moves])
    return ways_to_noughts(rows, len(moves))


def round_counts(net):
    return ways_to_noughts([list(changes(move)) for move in checked(net)[1]], net[0])


def weight(weights, hoard):
    return sum([each * number for each, number in zip(weights, hoard)])
