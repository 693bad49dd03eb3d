"""What several tests need: things of every kind, heaps that are none, and ways to ask."""

import copy
import itertools
import random
import re

LIMITS = {1: 20, 2: 10, 3: 6}
UNIT = {1: ((0, 1),), 2: ((0, 1), (0, 1)), 3: ((0, 1), (0, 1), (0, 1))}
FAR = 10 ** 9
LONG = 10 ** 39 + 7


def nested(depth):
    thing = None
    for step in range(depth):
        thing = ([thing], (thing,), {"a": thing})[step % 3]
    return thing


def things():
    """Things of every kind; made anew each time, for some of them can be changed."""
    return [
        None, True, False, 0, 1, 2, 3, 4, -1, -2, LONG, -LONG,
        "", "0", "1", "a", "0..1", "(0, 1)", "\t\n~",
        [], [0], [1, 2], [[]], [()], [(0, 1)], [((0, 1),)], [None], [True],
        (), (0,), (1,), (0, 1), (1, 0), (0, 0), (0, 1, 2), (True,), (False, True), (None,), ("a",),
        ([],), ({},), ((),), ((0, 1),), ((0, 1), (0, 1)), ((0, 1), (0, 1), (0, 1)),
        (1, []), (2, [((0, 1), (0, 1))]), (0, []), (4, []), (1, ()), (1, {}), (1, None),
        {}, {0: 1}, {"a": []}, {(0, 1): True}, {1: 20, 2: 10, 3: 6},
        nested(9), nested(10),
    ]


def no_stretches():
    return [
        (0, 0), (1, 0), (0,), (), (0, 1, 2), (False, 1), (0, True), (False, True), [0, 1], {0: 1}, "01",
        ("0", "1"), (0, "1"), (None, 1), (0, None), ((0,), (1,)), ([0], [1]), ({}, {}), None, True, 0, 1,
        (LONG, LONG), (0, -LONG), (0, [1]), ((0, 1), 1), (0, {}), ({}, 1),
    ]


def no_boxes(ways):
    """Things that are no box of so many ways, those wrong deep within among them."""
    wrong = []
    for place, bad in itertools.product(range(ways), no_stretches()):
        parts = list(UNIT[ways])
        parts[place] = bad
        wrong.append(tuple(parts))
    wrong.append(list(UNIT[ways]))
    wrong.append(dict(enumerate(UNIT[ways])))
    wrong.append((UNIT[ways],))
    wrong.append(UNIT[ways] + ((0, 1),))
    wrong.append(UNIT[ways][1:])
    return wrong + [thing for thing in things() if thing != UNIT[ways]]


def no_heaps():
    wrong = [thing for thing in things() if thing not in [(1, []), (2, [UNIT[2]])]]
    for ways, unit in UNIT.items():
        wrong.append([ways, [unit]])
        wrong.append((ways, (unit,)))
        wrong.append((ways, ()))
        wrong.append((ways, {0: unit}))
        wrong.append((ways, unit))
        wrong.append((ways, None))
        wrong.append((ways, "-"))
        wrong.append((ways, [unit], []))
        wrong.append((ways,))
        wrong.append({0: ways, 1: [unit]})
        wrong.append((ways % 3 + 1, [unit]))
        wrong.append((str(ways), [unit]))
        wrong.append(([ways], [unit]))
        wrong.append(((ways,), [unit]))
        wrong.append((ways, [unit] * (LIMITS[ways] + 1)))
        for bad in no_boxes(ways):
            wrong.append((ways, [bad]))
            wrong.append((ways, [unit, bad]))
            wrong.append((ways, [bad, unit]))
    wrong.append((True, []))
    wrong.append((True, [UNIT[1]]))
    wrong.append((False, []))
    wrong.append((0, [()]))
    wrong.append((4, [((0, 1),) * 4]))
    wrong.append((-1, [UNIT[1]]))
    return wrong


def no_wholes():
    """Things to stand in a number's place that are none."""
    return [None, True, False, "1", "", (), (1,), [1], [], {}, {1: 1}]


def no_houses():
    """Things that are no houses, those wrong deep within among them."""
    house = (0, 4, 2)
    bad = [(4, 0, 2), (0, 0, 2), (0, 4, 0), (0, 4, -1), (LONG, -LONG, 1), (0, LONG, -LONG)]
    bad += [(), (0,), (0, 4), (0, 4, 2, 2), [0, 4, 2], {0: 0, 1: 4, 2: 2}, "0..4^2", ((0, 4), 2), (0, (4, 2))]
    for place, thing in itertools.product(range(3), no_wholes()):
        bad.append(house[:place] + (thing,) + house[place + 1:])
    bad += [thing for thing in things() if thing != (0, 1, 2)]
    wrong = [[one] for one in bad] + [[one, house] for one in bad] + [[house, one] for one in bad]
    wrong += [(), (house,), house, {0: house}, {house: True}, "-", "0..4^2", (house, house)]
    return wrong + [thing for thing in things() if thing != []]


def no_skylines():
    """Things that are no skylines, those wrong deep within among them."""
    line = [(0, 3), (2, 1), (5, 0)]
    wrong = [
        [(0, 3)], [(0, 0)], [(0, 3), (2, 1)], [(0, 0), (2, 1), (5, 0)], [(0, 0), (5, 0)], [(0, 3), (5, 0), (6, 0)],
        [(0, 3), (2, 3), (5, 0)], [(0, 3), (0, 1), (5, 0)], [(0, 3), (2, 1), (2, 0)], [(2, 3), (0, 1), (5, 0)],
        [(0, 3), (2, 1), (1, 0)], [(5, 0), (2, 1), (0, 3)], [(0, 3), (2, -1), (5, 0)], [(0, -3), (2, 1), (5, 0)],
        [(0, -1), (5, 0)], [(0, 3), (2, 1), (3, 0), (4, 0), (5, 1), (6, 0)], [(0, 3), (2, 1), (5, -1)],
        [(LONG, 1), (0, 0)], [(0, 1), (0, 0)], [(0, 1), (5, False)], [(0, True), (5, 0)], [(False, 1), (5, 0)],
    ]
    bad = [(), (2,), (2, 1, 1), [2, 1], {2: 1}, "2^1", ((2, 1),), ([2], 1)] + things()
    for place, thing in itertools.product(range(2), no_wholes()):
        bad.append(line[1][:place] + (thing,) + line[1][place + 1:])
    wrong += [[line[0], one, line[2]] for one in bad]
    wrong += [[one] + line for one in bad] + [line + [one] for one in bad]
    wrong += [(), tuple(line), dict(line), dict(enumerate(line)), "-", "0^3 5^0", (line,), [line], [line, line]]
    return wrong + [thing for thing in things() if thing != []]


def lists_within(thing):
    """Every list and dict that a thing is or holds, however deep."""
    found = [thing] if isinstance(thing, (list, dict)) else []
    if isinstance(thing, (list, tuple)):
        for part in thing:
            found += lists_within(part)
    elif isinstance(thing, dict):
        for part in thing.values():
            found += lists_within(part)
    return found


def told(test, ask, *asked):
    """The answer, made sure of: the same twice, nothing handed in changed, and every list in it the asker's own."""
    before = copy.deepcopy(asked)
    answer = ask(*asked)
    kept = copy.deepcopy(answer)
    again = ask(*asked)
    test.assertEqual(repr(asked), repr(before))
    test.assertEqual(repr(again), repr(kept))
    mine = lists_within(answer)
    every = [id(one) for one in mine + lists_within(again) + lists_within(asked)]
    test.assertTrue(set(every[:len(mine)]).isdisjoint(every[len(mine):]), "a list told is not the asker's own")
    test.assertEqual(len(set(every[:len(mine)])), len(mine), "two lists told are one")
    if mine:
        for one in mine:
            one.clear()
        test.assertEqual(repr(again), repr(kept))
        test.assertEqual(repr(asked), repr(before))
        again = ask(*asked)
        test.assertEqual(repr(again), repr(kept))
    return again


def refused(test, wanted, ask, *asked):
    """The refusal is of the very class wanted, of no other, and nothing handed in is changed."""
    before = copy.deepcopy(asked)
    for _ in range(2):
        try:
            answer = ask(*asked)
        except Exception as error:
            test.assertIs(type(error), wanted, f"asked {asked!r}")
        else:
            test.fail(f"asked {asked!r}, answered {answer!r}, wanted {wanted.__name__}")
        test.assertEqual(repr(asked), repr(before))


def all_stretches(low, high):
    return list(itertools.combinations(range(low, high + 1), 2))


def spots(ways, low, high):
    return itertools.product(range(low, high), repeat=ways)


def holds_plainly(box, spot):
    return all(number in range(*stretch) for stretch, number in zip(box, spot))


# Heaps whose numbers lie from PLACES_LOW to PLACES_HIGH are counted spot by spot. Drawn apart, each of their numbers
# goes to a place further out and each of their spots stands for a whole box of them: so far heaps are counted, too.
PLACES_LOW = -3
PLACES_HIGH = 4
NEAR_PLACES = list(range(PLACES_LOW, PLACES_HIGH + 1))
FAR_PLACES = [-FAR, 1 - FAR, -70003, -1, 0, 12345678, FAR - 1, FAR]


def shapes(ways):
    """Heaps of each shape: of no boxes, of one, alike, beside, within, across, apart, as many as a heap may have."""
    most = LIMITS[ways]
    rest = ((0, 2), (-1, 1))[:ways - 1]
    heaps = [[], [((0, 1),) * ways], [((-3, 4),) * ways], [((-2, 3),) + rest]]
    heaps += [[((-1, 2),) * ways] * many for many in [2, 3, most - 1, most]]
    heaps.append([((-3, 0),) + rest, ((0, 4),) + rest])
    heaps.append([((1, 4),) + rest, ((-3, -1),) + rest, ((-1, 1),) + rest])
    heaps.append([((-1, 1),) * ways, ((-3, 3),) * ways, ((-2, 2),) * ways, ((0, 1),) * ways])
    heaps.append([((-3, -2),) * ways, ((0, 1),) * ways, ((2, 4),) * ways])
    heaps.append([((-3, 1),) * ways, ((0, 4),) * ways, ((0, 1),) * ways])
    heaps.append([((-3, -1),) + rest, ((1, 3),) + rest, ((-3, 3),) + ((3, 4),) * (ways - 1)])
    heaps.append([((-3, -3 + place % 7 + 1),) * ways for place in range(most)])
    heaps.append([((3 - place % 7, 4),) + ((place % 3 - 2, place % 4 + 1),) * (ways - 1) for place in range(most)])
    if ways > 1:
        heaps.append([((-3, 4), (place, place + 1), (-1, 1))[:ways] for place in range(-3, 0)]
                     + [((place, place + 1), (-3, 4), (-1, 1))[:ways] for place in range(0, 3)])
        heaps.append([box + ((-1, 1),) * (ways - 2) for box in ring(-3, 4)])
    if ways == 2:
        heaps += rings_and_lattices()
    return [(ways, boxes) for boxes in heaps]


def ring(low, high):
    """Four boxes around what lies from low + 1 to high - 1 either way."""
    return [((low, high), (low, low + 1)), ((high - 1, high), (low, high)),
            ((low, high), (high - 1, high)), ((low, low + 1), (low, high))]


def squares(places):
    return [((first, first + 1), (second, second + 1)) for first, second in places]


def rings_and_lattices():
    """Lists of boxes in a plane with holes, and such as meet at corners."""
    lattice = [place for place in itertools.product(range(-2, 3), range(-2, 2)) if sum(place) % 2 == 0]
    around = [place for place in itertools.product(range(3), repeat=2) if place != (1, 1)]
    return [
        ring(-3, 4) + ring(-1, 2), ring(-3, 4) + ring(-1, 2) + squares([(0, 0)]), ring(-3, 4) + squares([(-2, -2)]),
        ring(-3, 4) + squares([(-1, -1), (0, 0), (1, 1)]), ring(-3, 1) + ring(0, 4), ring(-3, 1) + ring(1, 4),
        squares(lattice), squares(lattice[::2]), squares((place, place) for place in range(-3, 4)),
        squares((place, -place) for place in range(-3, 4)), squares(around),
        squares(place for place in around if place != (0, 0)), squares(place for place in around if place != (2, 2)),
        squares(place for place in around if place != (0, 2)), squares(place for place in around if place != (2, 0)),
        # Two holes that meet at a corner are one, and a hole that meets the outside there is none.
        [((-3, 1), (-3, -2)), ((-3, -2), (-3, 1)), ((-1, 1), (-2, -1)), ((-2, -1), (-1, 1)), ((0, 1), (-1, 1)),
         ((-2, 1), (0, 1))],
        [((-3, 4), (-3, -2)), ((-3, -2), (-3, 4)), ((-1, 4), (-2, -1)), ((-2, -1), (-1, 4)), ((0, 4), (-1, 0))],
    ]


def mixed(ways, many, seed):
    """Heaps of boxes as they come, the same ones each time."""
    chance = random.Random(seed)
    stretches = all_stretches(PLACES_LOW, PLACES_HIGH)
    heaps = []
    for turn in range(many):
        # By turns all lengths of stretches, and short ones alone, between which more is left uncovered.
        some = stretches if turn % 2 == 0 else [one for one in stretches if one[1] - one[0] < 3]
        boxes = [tuple(chance.choice(some) for _ in range(ways)) for _ in range(chance.randint(2, LIMITS[ways]))]
        heaps.append((ways, boxes))
    return heaps


def drawn_apart(thing, places):
    """A heap, box, stretch or number of it with every number of spots gone to its place."""
    if isinstance(thing, int):
        return places[thing - PLACES_LOW]
    return tuple(drawn_apart(part, places) for part in thing)


def changed_otherwise(box):
    """A box a little longer, shorter, moved, either way."""
    for way in range(len(box)):
        low, high = box[way]
        for stretch in [(low, high + 1), (low - 1, high), (low + 1, high), (low, high - 1),
                        (low + 1, high + 1), (low - 1, high - 1)]:
            if stretch[0] < stretch[1]:
                yield box[:way] + (stretch,) + box[way + 1:]


class Counted:
    """A heap with small numbers, its like drawn apart (heap), and what its spots, counted one by one, tell of it."""

    def __init__(self, near, places):
        self.ways = near[0]
        self.near = near
        self.places = places
        self.heap = (near[0], [drawn_apart(box, places) for box in near[1]])
        self.holders = {}
        for spot in spots(near[0], PLACES_LOW, PLACES_HIGH):
            numbers = [number for number, box in enumerate(near[1]) if holds_plainly(box, spot)]
            if numbers:
                self.holders[spot] = numbers

    def width(self, number):
        return self.places[number + 1 - PLACES_LOW] - self.places[number - PLACES_LOW]

    def weight(self, spot):
        size = 1
        for number in spot:
            size *= self.width(number)
        return size

    def size_where(self, wanted):
        """How many spots the heap has for those of near that are covered and wanted."""
        return sum(self.weight(spot) for spot, numbers in self.holders.items() if wanted(spot, numbers))

    def often(self):
        most = max((len(numbers) for numbers in self.holders.values()), default=0)
        return [self.size_where(lambda spot, numbers: len(numbers) == times) for times in range(1, most + 1)]

    def covered(self):
        return self.size_where(lambda spot, numbers: True)


def counted(ways, many=60):
    """Heaps of so many ways, near and far out, each counted."""
    for near in shapes(ways) + mixed(ways, many, ways):
        yield Counted(near, NEAR_PLACES)
        yield Counted(near, FAR_PLACES)


# What texts write, told by their patterns.
NUMBER = "(?:0|-?[1-9][0-9]*)"
STRETCH = rf"{NUMBER}\.\.{NUMBER}"
BOX = re.compile(rf"{STRETCH}(?:,{STRETCH})*")
HEAP = re.compile(rf"({NUMBER})((?: {BOX.pattern})*)")
SPOT = re.compile(rf"{NUMBER}(?:,{NUMBER})*")
HOUSES = re.compile(rf"-|{STRETCH}\^{NUMBER}(?: {STRETCH}\^{NUMBER})*")
SKYLINE = re.compile(rf"-|{NUMBER}\^{NUMBER}(?: {NUMBER}\^{NUMBER})*")
SIGNS = "0123456789-.,^ \t\n+a~_"


def figures(number):
    """A number's writing, put together figure by figure."""
    rest = abs(number)
    signs = ""
    while rest > 0 or signs == "":
        rest, figure = divmod(rest, 10)
        signs = "0123456789"[figure] + signs
    return "-" + signs if number < 0 else signs


def numbers_in(text):
    return [int(number) for number in re.findall(NUMBER, text)]


def box_plainly(text):
    """The box of any ways that a text writes, or None."""
    box = tuple(tuple(numbers_in(part)) for part in text.split(",")) if BOX.fullmatch(text) else ()
    return box if len(box) in LIMITS and all(low < high for low, high in box) else None


def heap_plainly(text):
    """The heap that a text writes, or None."""
    found = HEAP.fullmatch(text)
    if not found or found[1] not in ("1", "2", "3"):
        return None
    ways = int(found[1])
    boxes = [box_plainly(word) for word in found[2].split()]
    right = len(boxes) <= LIMITS[ways] and all(box is not None and len(box) == ways for box in boxes)
    return (ways, boxes) if right else None


def spot_plainly(text):
    spot = tuple(numbers_in(text)) if SPOT.fullmatch(text) else ()
    return spot if 1 <= len(spot) <= 3 else None


def houses_plainly(text):
    if not HOUSES.fullmatch(text):
        return None
    houses = [tuple(numbers_in(word)) for word in text.split()] if text != "-" else []
    return houses if all(low < high and height > 0 for low, high, height in houses) else None


def skyline_plainly(text):
    if not SKYLINE.fullmatch(text):
        return None
    line = [tuple(numbers_in(word)) for word in text.split()] if text != "-" else []
    right = all(height >= 0 for number, height in line)
    right = right and all(one[0] < two[0] and one[1] != two[1] for one, two in zip(line, line[1:]))
    right = right and (line == [] or line[0][1] != 0 == line[-1][1])
    return line if right else None


def changed_by_one_sign(text):
    for place in range(len(text) + 1):
        yield text[:place] + text[place + 1:]
        for sign in SIGNS:
            yield text[:place] + sign + text[place:]
            yield text[:place] + sign + text[place + 1:]
    for place in range(len(text) - 1):
        yield text[:place] + text[place + 1] + text[place] + text[place + 2:]
