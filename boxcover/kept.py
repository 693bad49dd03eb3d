"""Boxes kept by names while they come and go."""

from boxcover.boxes import MOST_BOXES, are_ways, how_often, need_box
from boxcover.errors import NoDeed, NoName, NoWays, TooMany
from boxcover.sizes import covered_size
from boxcover.whose import most_often

SMALL_LETTERS = "abcdefghijklmnopqrstuvwxyz"
LONGEST_NAME = 8


def is_name(thing):
    if not isinstance(thing, str) or len(thing) < 1 or len(thing) > LONGEST_NAME:
        return False
    return all([sign in SMALL_LETTERS for sign in thing])


class Kept:
    def __init__(self, ways):
        if not are_ways(ways):
            raise NoWays("a Kept has 1, 2 or 3 ways")
        self.ways = ways
        self.boxes = {}
        # Each deed with what stood by its name ahead of it, None where nothing did: so much brings that back.
        self.deeds = []

    def stands(self, name):
        # is_name goes first: a list can't be looked up in a dict.
        return is_name(name) and name in self.boxes

    def grown_by(self, name, box):
        size_ahead = self.size_now()
        if box is None:
            self.boxes.pop(name)
        else:
            self.boxes[name] = box
        return self.size_now() - size_ahead

    def put_box(self, name, box):
        if not is_name(name) or self.stands(name):
            raise NoName("this is no name, or one by which a box stands")
        need_box(self.ways, box)
        if len(self.boxes) == MOST_BOXES[self.ways]:
            raise TooMany("there are as many boxes as a heap may have")
        self.deeds.append((name, None))
        return self.grown_by(name, box)

    def take_box(self, name):
        if not self.stands(name):
            raise NoName("no box stands by this name")
        self.deeds.append((name, self.boxes[name]))
        return self.grown_by(name, None)

    def undo(self):
        if len(self.deeds) == 0:
            raise NoDeed("no deed is left to be undone")
        deed = self.deeds.pop()
        return self.grown_by(deed[0], deed[1])

    def names_now(self):
        return sorted(self.boxes)

    def heap_now(self):
        return (self.ways, [self.boxes[name] for name in self.names_now()])

    def size_now(self):
        return covered_size(self.heap_now())

    def often_at(self, spot):
        return how_often(self.heap_now(), spot)

    def most_now(self):
        return most_often(self.heap_now())
