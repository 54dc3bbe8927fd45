"""Places that stay: sinks, which once empty stay so, and traps, which once not empty stay so.

Turned about, a net has as its sinks the traps that it had: so sinks alone are sought.
"""

from tokenwall.makes import turned
from tokenwall.nets import checked, need_places


def told_places(net, places):
    need_places(checked(net), places)
    return [place for place in range(net[0]) if place in places]


def has_one_at(row, places):
    return any([row[place] > 0 for place in places])


# What no move gives to that takes from none of the places. The others are in no sink among these places.
def tight(net, places):
    left = places
    for takes, gives in net[1]:
        if not has_one_at(takes, places):
            left = [place for place in left if gives[place] == 0]
    return left


def greatest_sink(net, places):
    sink = told_places(net, places)
    left = tight(net, sink)
    while left != sink:
        sink = left
        left = tight(net, sink)
    return sink


def is_sink(net, places):
    told = told_places(net, places)
    return tight(net, told) == told


def greatest_trap(net, places):
    return greatest_sink(turned(net), places)


def is_trap(net, places):
    return is_sink(turned(net), places)
