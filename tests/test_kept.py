import itertools
import random
import unittest

from boxcover.boxes import is_heap
from boxcover.errors import NoBox, NoDeed, NoName, NoSpot, NoWays, TooMany
from boxcover.kept import Kept
from tests.helper import (
    FAR, FAR_PLACES, LIMITS, LONG, NEAR_PLACES, PLACES_HIGH, PLACES_LOW, UNIT, Counted, all_stretches, drawn_apart,
    mixed, no_boxes, refused, shapes, spots, things, told,
)

NAMES = ["b", "a", "abc", "ab", "z", "abcdefgh", "zz", "ba", "c", "zzzzzzzz", "x", "q", "d", "e", "f", "g", "h", "i",
         "j", "k", "l", "m"]
LONG_NAMES = ["abcdefghi", "a" * 9, "a" * 80]
NO_NAMES = ["", "A", "aB", "Abc", "a1", "1", "a b", " a", "a ", "a\n", "\na", "a\t", "a-b", "-", "_", "a_b", "a.b", "~",
            "`", "{", "@", "[", "\u00e9", "a\u00df", "\u0101b"] + LONG_NAMES


def no_names():
    return NO_NAMES + [thing for thing in things() if thing != "a"] + [["a"], ("a",), {"a": 1}]


def now(kept):
    return (kept.names_now(), kept.heap_now(), kept.size_now(), kept.most_now())


def most_plainly(one):
    times = max((len(held) for held in one.holders.values()), default=0)
    first = min((spot for spot, held in one.holders.items() if len(held) == times), default=None)
    return (times, drawn_apart(first, one.places)) if times else None


class Plain:
    """What a Kept is to tell, by counting spots; each deed's boxes ahead of it are kept whole."""

    def __init__(self, ways, places):
        self.ways = ways
        self.places = places
        self.boxes = {}
        self.ahead = []

    def heap(self):
        return (self.ways, [self.boxes[name] for name in sorted(self.boxes)])

    def counted(self):
        return Counted(self.heap(), self.places)

    def change(self, boxes):
        before = self.counted().covered()
        self.ahead.append(self.boxes)
        self.boxes = boxes
        return self.counted().covered() - before

    def back(self):
        before = self.counted().covered()
        self.boxes = self.ahead.pop()
        return self.counted().covered() - before


class TestOneByOne(unittest.TestCase):
    def test_at_first_none(self):
        for ways in UNIT:
            kept = Kept(ways)
            self.assertEqual(told(self, kept.names_now), [])
            self.assertEqual(told(self, kept.heap_now), (ways, []))
            self.assertEqual(told(self, kept.size_now), 0)
            self.assertEqual(told(self, kept.often_at, (0,) * ways), 0)
            self.assertIsNone(told(self, kept.most_now))

    def test_on_a_line(self):
        kept = Kept(1)
        self.assertEqual(kept.put_box("b", ((0, 5),)), 5)
        self.assertEqual(kept.put_box("a", ((3, 9),)), 4)
        self.assertEqual(kept.put_box("c", ((1, 4),)), 0)
        self.assertEqual(told(self, kept.names_now), ["a", "b", "c"])
        self.assertEqual(told(self, kept.heap_now), (1, [((3, 9),), ((0, 5),), ((1, 4),)]))
        self.assertEqual(told(self, kept.size_now), 9)
        self.assertEqual([told(self, kept.often_at, (number,)) for number in range(-1, 10)],
                         [0, 1, 2, 2, 3, 2, 1, 1, 1, 1, 0])
        self.assertEqual(told(self, kept.most_now), (3, (3,)))
        self.assertEqual(kept.take_box("b"), -1)
        self.assertEqual(kept.take_box("a"), -5)
        self.assertEqual(now(kept), (["c"], (1, [((1, 4),)]), 3, (1, (1,))))
        self.assertEqual(kept.undo(), 5)
        self.assertEqual(kept.undo(), 1)
        self.assertEqual(kept.undo(), 0)
        self.assertEqual(now(kept), (["a", "b"], (1, [((3, 9),), ((0, 5),)]), 9, (2, (3,))))
        self.assertEqual(kept.undo(), -4)
        self.assertEqual(kept.undo(), -5)
        refused(self, NoDeed, kept.undo)
        self.assertEqual(now(kept), ([], (1, []), 0, None))

    def test_in_a_plane_and_in_space(self):
        kept = Kept(2)
        self.assertEqual(kept.put_box("one", ((0, 4), (0, 4))), 16)
        self.assertEqual(kept.put_box("two", ((2, 6), (1, 3))), 4)
        self.assertEqual(kept.take_box("one"), -12)
        self.assertEqual(now(kept), (["two"], (2, [((2, 6), (1, 3))]), 8, (1, (2, 1))))
        kept = Kept(3)
        self.assertEqual(kept.put_box("one", ((0, 2), (0, 2), (0, 2))), 8)
        self.assertEqual(kept.put_box("two", ((1, 3), (1, 3), (1, 3))), 7)
        self.assertEqual(kept.most_now(), (2, (1, 1, 1)))
        self.assertEqual(kept.undo(), -7)

    def test_the_kinds(self):
        for ways in UNIT:
            kept = Kept(ways)
            grown = [kept.put_box("a", UNIT[ways]), kept.take_box("a"), kept.undo(), kept.undo()]
            self.assertEqual([type(number) for number in grown], [int] * 4)
            self.assertTrue(is_heap(kept.heap_now()))

    def test_names_in_the_order_of_letters(self):
        for order in itertools.permutations(["a", "aa", "ab", "b", "ba"]):
            kept = Kept(1)
            for place, name in enumerate(order):
                kept.put_box(name, ((place, place + 1),))
            self.assertEqual(kept.names_now(), ["a", "aa", "ab", "b", "ba"])
            wanted = [((order.index(name), order.index(name) + 1),) for name in ["a", "aa", "ab", "b", "ba"]]
            self.assertEqual(kept.heap_now(), (1, wanted))

    def test_each_letter_and_each_length(self):
        kept = Kept(1)
        for letter in "abcdefghijklmnopqrstuvwxyz":
            self.assertEqual(kept.put_box(letter, UNIT[1]), 1)
            self.assertEqual(kept.take_box(letter), -1)
        for long in range(1, 9):
            kept.put_box("z" * long, UNIT[1])
        self.assertEqual(kept.names_now(), ["z" * long for long in range(1, 9)])

    def test_a_name_is_free_again(self):
        kept = Kept(1)
        kept.put_box("a", ((0, 4),))
        refused(self, NoName, kept.put_box, "a", ((0, 9),))
        kept.take_box("a")
        self.assertEqual(kept.put_box("a", ((0, 9),)), 9)
        refused(self, NoName, kept.put_box, "a", ((0, 4),))
        self.assertEqual([kept.undo(), kept.undo(), kept.undo()], [-9, 4, -4])

    def test_undone_deeds_are_gone(self):
        kept = Kept(1)
        kept.put_box("a", ((0, 4),))
        kept.put_box("b", ((2, 9),))
        self.assertEqual(kept.undo(), -5)
        kept.put_box("c", ((4, 5),))
        self.assertEqual([kept.undo(), kept.undo()], [-1, -4])
        refused(self, NoDeed, kept.undo)

    def test_far_out(self):
        for ways in UNIT:
            kept = Kept(ways)
            self.assertEqual(kept.put_box("a", ((-FAR, FAR),) * ways), (2 * FAR) ** ways)
            self.assertEqual(kept.put_box("b", ((FAR - 1, FAR),) * ways), 0)
            self.assertEqual(kept.take_box("a"), 1 - (2 * FAR) ** ways)
            self.assertEqual(kept.often_at((FAR - 1,) * ways), 1)
            self.assertEqual(kept.often_at((LONG,) * ways), 0)
            self.assertEqual(kept.undo(), (2 * FAR) ** ways - 1)
            self.assertEqual(kept.most_now(), (2, (FAR - 1,) * ways))

    def test_as_many_as_a_heap_may_have(self):
        for ways, most in LIMITS.items():
            kept = Kept(ways)
            for place in range(most):
                box = ((place, place + 2),) + UNIT[ways][1:]
                self.assertEqual(kept.put_box(NAMES[place], box), 2 if place == 0 else 1)
            before = now(kept)
            refused(self, TooMany, kept.put_box, NAMES[most], UNIT[ways])
            self.assertEqual(now(kept), before)
            self.assertEqual(kept.take_box(NAMES[0]), -1)
            self.assertEqual(kept.put_box(NAMES[most], ((0, 1),) + UNIT[ways][1:]), 1)
            refused(self, TooMany, kept.put_box, NAMES[0], UNIT[ways])
            self.assertEqual([kept.undo(), kept.undo()], [-1, 1])
            self.assertEqual(now(kept), before)
            for place in reversed(range(most)):
                self.assertEqual(kept.undo(), -2 if place == 0 else -1)
            refused(self, NoDeed, kept.undo)


class TestManyDeeds(unittest.TestCase):
    def check_now(self, kept, plain):
        one = plain.counted()
        self.assertEqual(told(self, kept.names_now), sorted(plain.boxes))
        self.assertEqual(told(self, kept.heap_now), one.heap)
        self.assertEqual(told(self, kept.size_now), one.covered())
        self.assertEqual(told(self, kept.most_now), most_plainly(one))

    def check_spots(self, kept, plain):
        one = plain.counted()
        for spot in spots(plain.ways, PLACES_LOW, PLACES_HIGH):
            times = len(one.holders.get(spot, []))
            self.assertEqual(kept.often_at(drawn_apart(spot, plain.places)), times)

    def refuse_amid(self, kept, plain):
        standing = sorted(plain.boxes)
        free = [name for name in NAMES if name not in plain.boxes]
        for name in standing[:2]:
            refused(self, NoName, kept.put_box, name, UNIT[plain.ways])
        refused(self, NoName, kept.take_box, free[0])
        refused(self, NoBox, kept.put_box, free[0], UNIT[plain.ways % 3 + 1])
        refused(self, NoName, kept.put_box, "No", UNIT[plain.ways])
        refused(self, NoSpot, kept.often_at, (0,) * (plain.ways + 1))
        if len(standing) == LIMITS[plain.ways]:
            refused(self, TooMany, kept.put_box, free[0], UNIT[plain.ways])
        if not plain.ahead:
            refused(self, NoDeed, kept.undo)

    def deed(self, chance, kept, plain, stretches):
        ways = plain.ways
        free = [name for name in NAMES if name not in plain.boxes]
        what = chance.randrange(10)
        if what < 6 and len(plain.boxes) < LIMITS[ways]:
            name = chance.choice(free)
            box = tuple(chance.choice(stretches) for _ in range(ways))
            grown = plain.change({**plain.boxes, name: box})
            self.assertEqual(kept.put_box(name, drawn_apart(box, plain.places)), grown)
        elif what < 8 and plain.boxes:
            name = chance.choice(sorted(plain.boxes))
            grown = plain.change({other: box for other, box in plain.boxes.items() if other != name})
            self.assertEqual(kept.take_box(name), grown)
        elif plain.ahead:
            self.assertEqual(kept.undo(), plain.back())

    def test_as_they_come(self):
        stretches = all_stretches(PLACES_LOW, PLACES_HIGH)
        for ways, places in itertools.product(UNIT, [NEAR_PLACES, FAR_PLACES]):
            chance = random.Random(ways)
            kept = Kept(ways)
            plain = Plain(ways, places)
            for turn in range(120):
                self.deed(chance, kept, plain, stretches)
                self.check_now(kept, plain)
                if turn % 10 == 0:
                    self.refuse_amid(kept, plain)
                    self.check_now(kept, plain)
                    self.check_spots(kept, plain)
            while plain.ahead:
                self.assertEqual(kept.undo(), plain.back())
                self.check_now(kept, plain)
            refused(self, NoDeed, kept.undo)

    def test_heaps_put_box_by_box(self):
        for ways in UNIT:
            for near in shapes(ways) + mixed(ways, 10, 40 + ways):
                kept = Kept(ways)
                plain = Plain(ways, NEAR_PLACES)
                for name, box in zip(NAMES, near[1]):
                    self.assertEqual(kept.put_box(name, box), plain.change({**plain.boxes, name: box}))
                self.check_now(kept, plain)
                for name in sorted(plain.boxes, reverse=True):
                    rest = {other: box for other, box in plain.boxes.items() if other != name}
                    self.assertEqual(kept.take_box(name), plain.change(rest))
                self.check_now(kept, plain)
                while plain.ahead:
                    self.assertEqual(kept.undo(), plain.back())
                    self.assertEqual(kept.heap_now(), plain.heap())
                refused(self, NoDeed, kept.undo)

    def test_two_side_by_side(self):
        one = Kept(1)
        other = Kept(1)
        third = Kept(3)
        one.put_box("a", ((0, 4),))
        self.assertEqual(now(other), ([], (1, []), 0, None))
        refused(self, NoDeed, other.undo)
        refused(self, NoName, other.take_box, "a")
        self.assertEqual(other.put_box("a", ((0, 9),)), 9)
        self.assertEqual(third.put_box("a", UNIT[3]), 1)
        self.assertEqual(one.take_box("a"), -4)
        self.assertEqual(now(other), (["a"], (1, [((0, 9),)]), 9, (1, (0,))))
        self.assertEqual([one.undo(), one.undo()], [4, -4])
        self.assertEqual([other.size_now(), third.size_now()], [9, 1])


class TestRefusals(unittest.TestCase):
    def test_no_ways(self):
        for thing in things() + [0, 4, -1, True, False, "1", (1,), [1], LONG]:
            if type(thing) is not int or thing not in (1, 2, 3):
                refused(self, NoWays, Kept, thing)

    def test_no_name(self):
        for ways in UNIT:
            kept = Kept(ways)
            kept.put_box("stands", UNIT[ways])
            before = now(kept)
            for name in no_names():
                refused(self, NoName, kept.put_box, name, UNIT[ways])
                refused(self, NoName, kept.take_box, name)
            for name in ["a", "stand", "standss", "zzz"]:
                refused(self, NoName, kept.take_box, name)
            refused(self, NoName, kept.put_box, "stands", UNIT[ways])
            self.assertEqual(now(kept), before)
            self.assertEqual(kept.undo(), -1)
            refused(self, NoDeed, kept.undo)

    def test_no_box(self):
        for ways in UNIT:
            kept = Kept(ways)
            kept.put_box("stands", UNIT[ways])
            before = now(kept)
            for box in no_boxes(ways):
                refused(self, NoBox, kept.put_box, "a", box)
            self.assertEqual(now(kept), before)
            self.assertEqual(kept.undo(), -1)
            refused(self, NoDeed, kept.undo)

    def test_no_name_goes_ahead_of_no_box_and_that_ahead_of_too_many(self):
        for ways, most in LIMITS.items():
            kept = Kept(ways)
            for place in range(most):
                # Ahead of the last one there is room, behind it there is none.
                for name, box in itertools.product(["", None, "A"] + NAMES[:place], [None, UNIT[ways % 3 + 1]]):
                    refused(self, NoName, kept.put_box, name, box)
                refused(self, NoBox, kept.put_box, NAMES[most], None)
                kept.put_box(NAMES[place], UNIT[ways])
            for name in [NAMES[0], "", None, []]:
                refused(self, NoName, kept.put_box, name, UNIT[ways])
                refused(self, NoName, kept.put_box, name, None)
            for box in no_boxes(ways):
                refused(self, NoBox, kept.put_box, NAMES[most], box)
            refused(self, TooMany, kept.put_box, NAMES[most], UNIT[ways])

    def test_no_spot(self):
        for ways in UNIT:
            for kept in [Kept(ways), Kept(ways)]:
                for thing in things():
                    if not (isinstance(thing, tuple) and len(thing) == ways and all(type(n) is int for n in thing)):
                        refused(self, NoSpot, kept.often_at, thing)
                kept.put_box("a", UNIT[ways])
                for place in range(ways):
                    for bad in [None, True, "0", (0,), [0], {}]:
                        spot = [0] * ways
                        spot[place] = bad
                        refused(self, NoSpot, kept.often_at, tuple(spot))
                refused(self, NoSpot, kept.often_at, [0] * ways)

    def test_no_deed(self):
        for ways in UNIT:
            kept = Kept(ways)
            refused(self, NoDeed, kept.undo)
            kept.put_box("a", UNIT[ways])
            kept.undo()
            refused(self, NoDeed, kept.undo)
            refused(self, NoName, kept.take_box, "a")
            refused(self, NoDeed, kept.undo)
            self.assertEqual(kept.put_box("a", UNIT[ways]), 1)


class TestNothingElseIsKept(unittest.TestCase):
    def test_told_lists_are_the_askers_own(self):
        kept = Kept(2)
        kept.put_box("a", UNIT[2])
        names = kept.names_now()
        heap = kept.heap_now()
        names.append("b")
        heap[1].clear()
        self.assertEqual(now(kept), (["a"], (2, [UNIT[2]]), 1, (1, (0, 0))))
        names = kept.names_now()
        heap = kept.heap_now()
        kept.put_box("b", ((5, 6), (5, 6)))
        self.assertEqual((names, heap), (["a"], (2, [UNIT[2]])))


if __name__ == "__main__":
    unittest.main()
