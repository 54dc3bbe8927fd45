"""Nets written as texts, and texts read as nets.

No number in a net is above 9, so each is written as one figure.
"""

from tokenwall.errors import NoText
from tokenwall.nets import checked, is_net

FIGURES = ("0", "1", "2", "3", "4", "5", "6", "7", "8", "9")


def shown_row(row):
    return " ".join([FIGURES[number] for number in row])


def shown_move(move):
    return " > ".join([shown_row(row) for row in move])


def shown(net):
    return " ; ".join([FIGURES[checked(net)[0]]] + [shown_move(move) for move in net[1]])


def read_number(text):
    if text not in FIGURES:
        raise NoText("a number of a net is one figure")
    return FIGURES.index(text)


def read_row(text):
    return tuple([read_number(part) for part in text.split(" ")])


def read_move(text):
    return tuple([read_row(part) for part in text.split(" > ")])


# Nothing is lost by splitting: put together again, what was read is the text, so no other writing comes through.
def read(text):
    if not isinstance(text, str):
        raise NoText("this is no text")
    parts = text.split(" ; ")
    net = (read_number(parts[0]), tuple([read_move(part) for part in parts[1:]]))
    if not is_net(net):
        raise NoText("this writes what is no net")
    return net
