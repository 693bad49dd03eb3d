import itertools
import random
import unittest

from boxcover.errors import NoHeap, NoWays
from boxcover.parts import covered_both, covered_without, covers_same, is_parting, parting_of
from tests.helper import (
    FAR, FAR_PLACES, LIMITS, LONG, NEAR_PLACES, PLACES_HIGH, PLACES_LOW, UNIT, Counted, changed_otherwise, counted,
    drawn_apart, holds_plainly, mixed, no_boxes, no_heaps, refused, ring, shapes, spots, squares, things, told,
)

OF_TWO = [covers_same, covered_without, covered_both]
SPACE = (3, [((0, 2), (0, 3), (0, 5)), ((1, 4), (2, 9), (-3, 1)), ((2, 3), (3, 4), (5, 6))])
WHOLE = {1: (1, [((0, 4),)]), 2: (2, [((0, 4), (0, 2))]), 3: (3, [((0, 4), (0, 2), (0, 3))])}


def parting_plainly(held, ways):
    """The told parting of a set of spots, by its own words."""
    if ways == 0:
        return [()] if held else []
    runs = []
    for number in range(PLACES_LOW, PLACES_HIGH):
        rest = {spot[1:] for spot in held if spot[0] == number}
        if runs and runs[-1][1] == number and runs[-1][2] == rest:
            runs[-1] = (runs[-1][0], number + 1, rest)
        elif rest:
            runs.append((number, number + 1, rest))
    return sorted(((low, high),) + box for low, high, rest in runs for box in parting_plainly(rest, ways - 1))


def drawn_boxes(boxes, places):
    return [drawn_apart(box, places) for box in boxes]


def is_parting_plainly(one, boxes):
    """Whether each spot that near covers is held once, and no other: boxes as near as the heap."""
    for spot in spots(one.ways, PLACES_LOW - 2, PLACES_HIGH + 2):
        times = sum(holds_plainly(box, spot) for box in boxes)
        if times != (spot in one.holders):
            return False
    return True


def spot_boxes(held):
    return [tuple((number, number + 1) for number in spot) for spot in held]


def pairs(ways, many):
    """Heaps by two, near and far, with the spots that either covers."""
    heaps = shapes(ways) + mixed(ways, many, ways + 20)
    for one, other in zip(heaps, heaps[5:] + heaps[:5]):
        for places in (NEAR_PLACES, FAR_PLACES):
            yield Counted(one, places), Counted(other, places)
    for one in heaps[:12]:
        yield Counted(one, NEAR_PLACES), Counted((ways, one[1][::-1]), NEAR_PLACES)


class TestTheToldParting(unittest.TestCase):
    def test_on_a_line(self):
        self.assertEqual(told(self, parting_of, (1, [])), [])
        self.assertEqual(told(self, parting_of, (1, [((3, 7),)])), [((3, 7),)])
        heap = (1, [((12, 14),), ((3, 9),), ((0, 5),), ((9, 10),), ((4, 5),)])
        self.assertEqual(told(self, parting_of, heap), [((0, 10),), ((12, 14),)])

    def test_in_a_plane(self):
        self.assertEqual(told(self, parting_of, (2, [])), [])
        self.assertEqual(told(self, parting_of, (2, [((0, 4), (0, 4)), ((2, 6), (1, 3))])), [
            ((0, 4), (0, 4)), ((4, 6), (1, 3))])
        self.assertEqual(told(self, parting_of, (2, ring(0, 4))), [
            ((0, 1), (0, 4)), ((1, 3), (0, 1)), ((1, 3), (3, 4)), ((3, 4), (0, 4))])
        self.assertEqual(told(self, parting_of, (2, squares([(1, 1), (0, 0), (0, 1), (2, 0)]))), [
            ((0, 1), (0, 2)), ((1, 2), (1, 2)), ((2, 3), (0, 1))])

    def test_a_stretch_goes_on_where_other_boxes_cover_the_same(self):
        heap = (2, [((0, 2), (0, 3)), ((2, 5), (0, 2)), ((2, 5), (1, 3)), ((1, 3), (1, 2))])
        self.assertEqual(told(self, parting_of, heap), [((0, 5), (0, 3))])

    def test_a_stretch_ends_where_as_much_but_not_the_same_is_covered(self):
        heap = (2, [((0, 2), (0, 3)), ((2, 5), (1, 4))])
        self.assertEqual(told(self, parting_of, heap), [((0, 2), (0, 3)), ((2, 5), (1, 4))])

    def test_a_stretch_ends_at_a_gap(self):
        heap = (2, [((0, 2), (0, 3)), ((3, 5), (0, 3))])
        self.assertEqual(told(self, parting_of, heap), [((0, 2), (0, 3)), ((3, 5), (0, 3))])

    def test_in_space(self):
        self.assertEqual(told(self, parting_of, (3, [])), [])
        self.assertEqual(told(self, parting_of, SPACE), [
            ((0, 1), (0, 3), (0, 5)), ((1, 2), (0, 2), (0, 5)), ((1, 2), (2, 3), (-3, 5)), ((1, 2), (3, 9), (-3, 1)),
            ((2, 3), (2, 3), (-3, 1)), ((2, 3), (3, 4), (-3, 1)), ((2, 3), (3, 4), (5, 6)), ((2, 3), (4, 9), (-3, 1)),
            ((3, 4), (2, 9), (-3, 1))])

    def test_alike(self):
        for ways, most in LIMITS.items():
            for many in range(1, most + 1):
                box = ((-1, 2), (0, 5), (7, 9))[:ways]
                self.assertEqual(told(self, parting_of, (ways, [box] * many)), [box])

    def test_far_out(self):
        for ways in UNIT:
            whole = ((-FAR, FAR),) * ways
            last = ((FAR - 1, FAR),) * ways
            self.assertEqual(told(self, parting_of, (ways, [last, whole])), [whole])
        self.assertEqual(told(self, parting_of, (2, [((-FAR, FAR), (0, 1)), ((FAR - 1, FAR), (-FAR, FAR))])), [
            ((-FAR, FAR - 1), (0, 1)), ((FAR - 1, FAR), (-FAR, FAR))])

    def test_by_its_own_words(self):
        for ways in UNIT:
            for one in counted(ways):
                wanted = drawn_boxes(parting_plainly(set(one.holders), ways), one.places)
                self.assertEqual(told(self, parting_of, one.heap), wanted, one.heap)


class TestWhatIsAParting(unittest.TestCase):
    def test_of_no_boxes(self):
        for ways in UNIT:
            self.assertIs(told(self, is_parting, (ways, []), []), True)
            self.assertIs(told(self, is_parting, (ways, []), [UNIT[ways]]), False)
            self.assertIs(told(self, is_parting, (ways, [UNIT[ways]]), []), False)

    def test_the_told_one_in_any_order(self):
        for ways in UNIT:
            for one in counted(ways, 20):
                parting = parting_of(one.heap)
                self.assertIs(told(self, is_parting, one.heap, parting), True, one.heap)
                self.assertIs(told(self, is_parting, one.heap, parting[::-1]), True, one.heap)
                self.assertIs(told(self, is_parting, one.heap, parting[1:] + parting[:1]), True, one.heap)

    def test_parted_otherwise(self):
        chance = random.Random(20)
        for ways in UNIT:
            for one in counted(ways, 20):
                boxes = drawn_boxes(spot_boxes(one.holders), one.places)
                chance.shuffle(boxes)
                self.assertIs(told(self, is_parting, one.heap, boxes), True, one.heap)
        for boxes in [[((0, 3), (0, 1)), ((0, 1), (1, 3)), ((1, 3), (1, 3))], [((0, 3), (0, 3))],
                      [((0, 2), (0, 1)), ((2, 3), (0, 2)), ((1, 3), (2, 3)), ((0, 1), (1, 3)), ((1, 2), (1, 2))]]:
            self.assertIs(told(self, is_parting, (2, [((0, 3), (0, 3))]), boxes), True)

    def test_the_boxes_of_the_heap(self):
        self.assertIs(told(self, is_parting, (1, [((0, 2),), ((2, 4),)]), [((0, 2),), ((2, 4),)]), True)
        self.assertIs(told(self, is_parting, (1, [((0, 2),), ((1, 4),)]), [((0, 2),), ((1, 4),)]), False)
        heap = (3, [UNIT[3], UNIT[3]])
        self.assertIs(told(self, is_parting, heap, heap[1]), False)
        self.assertIs(told(self, is_parting, heap, heap[1][:1]), True)

    def test_a_box_out_or_twice(self):
        for ways in UNIT:
            for one in counted(ways, 10):
                parting = parting_of(one.heap)
                for place, box in enumerate(parting[:12]):
                    out = parting[:place] + parting[place + 1:]
                    self.assertIs(told(self, is_parting, one.heap, out), False)
                    self.assertIs(told(self, is_parting, one.heap, parting + [box]), False)
                    self.assertIs(told(self, is_parting, one.heap, [box, box] + out), False)

    def test_a_box_longer_shorter_or_moved(self):
        for ways in UNIT:
            for one in counted(ways, 10):
                parting = parting_of(one.heap)
                for place, box in enumerate(parting[:8]):
                    for other in changed_otherwise(box):
                        changed = parting[:place] + [other] + parting[place + 1:]
                        self.assertIs(told(self, is_parting, one.heap, changed), False, (one.heap, changed))

    def test_one_that_balances(self):
        # As much in all, but one spot twice or one outside for one that is left out.
        for ways, heap in WHOLE.items():
            cubes = spot_boxes(itertools.product(*[range(*stretch) for stretch in heap[1][0]]))
            self.assertIs(told(self, is_parting, heap, cubes), True)
            for place in range(len(cubes)):
                out = cubes[:place] + cubes[place + 1:]
                self.assertIs(told(self, is_parting, heap, out + [cubes[place - 1]]), False)
                self.assertIs(told(self, is_parting, heap, out + [((9, 10),) * ways]), False)
                self.assertIs(told(self, is_parting, heap, out + [((-1, 0),) + cubes[place][1:]]), False)
        plane = (2, [((0, 4), (0, 2))])
        for boxes in [[((0, 3), (0, 2)), ((2, 4), (0, 1))], [((0, 2), (0, 2)), ((1, 3), (0, 2))],
                      [((0, 2), (0, 2)), ((2, 4), (1, 3))], [((0, 2), (0, 4))], [((1, 5), (0, 2))],
                      [((0, 3), (0, 2)), ((1, 3), (0, 1))], [((0, 4), (0, 1)), ((0, 4), (0, 1))],
                      [((0, 2), (0, 1)), ((2, 4), (1, 2)), ((0, 2), (0, 1)), ((2, 4), (1, 2))]]:
            self.assertIs(told(self, is_parting, plane, boxes), False, boxes)

    def test_corners_that_fall_together(self):
        # Four boxes round a fifth, and the five with two of them drawn the other way about.
        whole = (2, [((0, 3), (0, 3))])
        wheel = [((0, 2), (0, 1)), ((2, 3), (0, 2)), ((1, 3), (2, 3)), ((0, 1), (1, 3))]
        self.assertIs(told(self, is_parting, whole, wheel + squares([(1, 1)])), True)
        self.assertIs(told(self, is_parting, whole, wheel), False)
        self.assertIs(told(self, is_parting, whole, wheel + squares([(0, 0)])), False)
        across = (2, squares([(0, 0), (1, 1)]))
        self.assertIs(told(self, is_parting, across, squares([(0, 1), (1, 0)])), False)
        self.assertIs(told(self, is_parting, across, squares([(1, 1), (0, 0)])), True)
        cube = list(itertools.product((0, 1), repeat=3))
        even = (3, spot_boxes([spot for spot in cube if sum(spot) % 2 == 0]))
        self.assertIs(told(self, is_parting, even, spot_boxes([spot for spot in cube if sum(spot) % 2 == 1])), False)

    def test_as_they_come_against_counting(self):
        chance = random.Random(21)
        found = {True: 0, False: 0}
        for ways in UNIT:
            for one in counted(ways, 15):
                near = parting_plainly(set(one.holders), ways)
                for _ in range(6):
                    boxes = list(near)
                    for _ in range(chance.randint(0, 2)):
                        boxes = self.altered(chance, boxes)
                    wanted = is_parting_plainly(one, boxes)
                    found[wanted] += 1
                    self.assertIs(is_parting(one.near, boxes), wanted, (one.near, boxes))
        self.assertTrue(min(found.values()) > 100, found)

    def altered(self, chance, boxes):
        """Boxes with one cut in two, or with one changed, put in or out."""
        if not boxes:
            return boxes
        box = chance.choice(boxes)
        rest = [other for other in boxes if other != box]
        way = chance.randrange(len(box))
        low, high = box[way]
        middle = (low + high) // 2
        deed = chance.randrange(6)
        if deed < 3 and low < middle:
            halves = [box[:way] + (stretch,) + box[way + 1:] for stretch in [(middle, high), (low, middle)]]
            return rest + halves
        if deed == 3:
            return rest + [chance.choice(list(changed_otherwise(box)))]
        return rest if deed == 4 else rest + [box]

    def test_other_kinds(self):
        for ways, heap in WHOLE.items():
            parting = parting_of(heap)
            box = parting[0]
            wrong = [tuple(parting), dict(enumerate(parting)), {box: True}, box, (box,), [parting], [[box]],
                     [list(box)], [tuple(list(stretch) for stretch in box)], str(parting), (ways, parting), heap,
                     [heap]]
            for thing in wrong + [thing for thing in things() if thing != []]:
                self.assertIs(told(self, is_parting, heap, thing), False, thing)
            for thing in no_boxes(ways):
                self.assertIs(told(self, is_parting, heap, parting + [thing]), False, thing)
                self.assertIs(told(self, is_parting, heap, [thing] + parting), False, thing)
                self.assertIs(told(self, is_parting, heap, [thing]), False, thing)

    def test_truths_are_no_numbers(self):
        for ways in UNIT:
            heap = (ways, [UNIT[ways]])
            self.assertIs(told(self, is_parting, heap, [UNIT[ways]]), True)
            for stretch in [(False, 1), (0, True), (False, True)]:
                self.assertIs(told(self, is_parting, heap, [(stretch,) + UNIT[ways][1:]]), False)
                self.assertIs(told(self, is_parting, heap, [UNIT[ways][:-1] + (stretch,)]), False)

    def test_boxes_of_other_ways(self):
        for ways, other in itertools.permutations(UNIT, 2):
            self.assertIs(told(self, is_parting, (ways, [UNIT[ways]]), [UNIT[other]]), False)

    def test_numbers_of_forty_figures(self):
        for ways in UNIT:
            self.assertIs(told(self, is_parting, (ways, [UNIT[ways]]), [((-LONG, LONG),) * ways]), False)

    def test_partings_of_many_boxes(self):
        places = list(itertools.product(range(11), repeat=3))
        cubes = spot_boxes(places)
        heap = (3, [((0, 11), (0, 11), (0, 11))])
        self.assertIs(told(self, is_parting, heap, cubes), True)
        self.assertIs(told(self, is_parting, heap, cubes[::-1]), True)
        self.assertIs(told(self, is_parting, heap, cubes[1:]), False)
        self.assertIs(told(self, is_parting, heap, cubes + cubes[:1]), False)
        self.assertIs(told(self, is_parting, heap, cubes[:-1] + [((10, 12), (10, 11), (10, 11))]), False)
        rods = spot_boxes([(place,) for place in range(1400)])
        self.assertIs(told(self, is_parting, (1, [((0, 1400),)]), rods), True)
        self.assertIs(told(self, is_parting, (1, [((0, 1400),)]), rods[:700] + rods[701:]), False)
        self.assertIs(told(self, is_parting, (1, [((0, 1400),)]), [((0, 1),)] * 1400), False)


class TestTwoHeaps(unittest.TestCase):
    def test_on_a_line(self):
        one = (1, [((0, 5),), ((8, 12),)])
        other = (1, [((3, 9),), ((4, 5),)])
        self.assertIs(told(self, covers_same, one, other), False)
        self.assertEqual(told(self, covered_without, one, other), [((0, 3),), ((9, 12),)])
        self.assertEqual(told(self, covered_without, other, one), [((5, 8),)])
        self.assertEqual(told(self, covered_both, one, other), [((3, 5),), ((8, 9),)])

    def test_in_a_plane(self):
        one = (2, [((0, 3), (0, 3))])
        other = (2, [((1, 2), (1, 2))])
        self.assertEqual(told(self, covered_without, one, other), [
            ((0, 1), (0, 3)), ((1, 2), (0, 1)), ((1, 2), (2, 3)), ((2, 3), (0, 3))])
        self.assertEqual(told(self, covered_without, other, one), [])
        self.assertEqual(told(self, covered_both, one, other), [((1, 2), (1, 2))])
        self.assertIs(told(self, covers_same, (2, ring(0, 3)), (2, covered_without(one, other))), True)

    def test_stretches_go_on_where_the_same_is_left(self):
        # What comes and goes of the second outside of the first leaves the same of it.
        one = (2, [((0, 9), (0, 2))])
        other = (2, [((2, 4), (5, 7)), ((3, 8), (-4, 0)), ((-5, 20), (1, 2))])
        self.assertEqual(told(self, covered_without, one, other), [((0, 9), (0, 1))])
        self.assertEqual(told(self, covered_both, one, other), [((0, 9), (1, 2))])

    def test_in_space(self):
        one = (3, [((0, 2), (0, 2), (0, 2))])
        other = (3, [((1, 3), (1, 3), (1, 3))])
        self.assertEqual(told(self, covered_without, one, other), [
            ((0, 1), (0, 2), (0, 2)), ((1, 2), (0, 1), (0, 2)), ((1, 2), (1, 2), (0, 1))])
        self.assertEqual(told(self, covered_both, one, other), [((1, 2), (1, 2), (1, 2))])
        self.assertIs(told(self, covers_same, one, other), False)

    def test_of_no_boxes(self):
        for ways in UNIT:
            none = (ways, [])
            some = (ways, [UNIT[ways]])
            self.assertIs(told(self, covers_same, none, (ways, [])), True)
            self.assertIs(told(self, covers_same, none, some), False)
            self.assertIs(told(self, covers_same, some, none), False)
            self.assertEqual(told(self, covered_without, none, some), [])
            self.assertEqual(told(self, covered_without, some, none), [UNIT[ways]])
            self.assertEqual(told(self, covered_both, none, some), [])
            self.assertEqual(told(self, covered_both, some, none), [])
            self.assertEqual(told(self, covered_without, none, none), [])

    def test_one_heap_twice(self):
        for ways in UNIT:
            for one in counted(ways, 10):
                self.assertIs(told(self, covers_same, one.heap, one.heap), True)
                self.assertEqual(told(self, covered_without, one.heap, one.heap), [])
                self.assertEqual(told(self, covered_both, one.heap, one.heap), parting_of(one.heap))

    def test_the_same_by_other_boxes(self):
        self.assertIs(told(self, covers_same, (1, [((0, 4),)]), (1, [((2, 4),), ((0, 3),), ((1, 2),)])), True)
        rows = (2, [((0, 5), (place, place + 1)) for place in range(5)])
        columns = (2, [((place, place + 1), (0, 5)) for place in range(5)])
        self.assertIs(told(self, covers_same, rows, columns), True)
        self.assertIs(told(self, covers_same, rows, (2, columns[1][1:])), False)
        self.assertIs(told(self, covers_same, (2, ring(0, 4)), (2, ring(0, 4)[::-1])), True)

    def test_as_much_but_not_the_same(self):
        for ways in UNIT:
            moved = ((1, 2),) + UNIT[ways][1:]
            self.assertIs(told(self, covers_same, (ways, [UNIT[ways]]), (ways, [moved])), False)

    def test_far_out(self):
        for ways in UNIT:
            whole = ((-FAR, FAR),) * ways
            last = UNIT[ways][:-1] + ((FAR - 1, FAR),)
            self.assertIs(told(self, covers_same, (ways, [whole]), (ways, [whole, last])), True)
            self.assertEqual(told(self, covered_both, (ways, [last]), (ways, [whole])), [last])
            self.assertEqual(told(self, covered_without, (ways, [last]), (ways, [whole])), [])

    def test_against_counting(self):
        for ways in UNIT:
            for one, other in pairs(ways, 40):
                first = set(one.holders)
                second = set(other.holders)
                self.assertIs(told(self, covers_same, one.heap, other.heap), first == second)
                wanted = drawn_boxes(parting_plainly(first - second, ways), one.places)
                self.assertEqual(told(self, covered_without, one.heap, other.heap), wanted, (one.heap, other.heap))
                wanted = drawn_boxes(parting_plainly(first & second, ways), one.places)
                self.assertEqual(told(self, covered_both, one.heap, other.heap), wanted, (one.heap, other.heap))


class TestRefusals(unittest.TestCase):
    def test_no_heap(self):
        for thing in no_heaps():
            refused(self, NoHeap, parting_of, thing)
            for other in [[], None, [UNIT[1]]]:
                refused(self, NoHeap, is_parting, thing, other)

    def test_no_heap_of_either(self):
        for ask, thing in itertools.product(OF_TWO, no_heaps()):
            refused(self, NoHeap, ask, thing, (1, []))
            refused(self, NoHeap, ask, (2, [UNIT[2]]), thing)
            refused(self, NoHeap, ask, thing, thing)

    def test_no_ways(self):
        for ask in OF_TWO:
            for one, other in itertools.permutations(UNIT, 2):
                refused(self, NoWays, ask, (one, []), (other, []))
                refused(self, NoWays, ask, (one, [UNIT[one]]), (other, [UNIT[other]] * LIMITS[other]))

    def test_no_heap_of_the_second_goes_ahead_of_no_ways(self):
        for ask in OF_TWO:
            refused(self, NoHeap, ask, (1, []), (2, [UNIT[1]]))
            refused(self, NoHeap, ask, (3, []), (2, [UNIT[2]] * 11))
            refused(self, NoHeap, ask, (2, [UNIT[1]]), (1, []))
            refused(self, NoHeap, ask, (2, []), (4, []))


class TestNothingIsKept(unittest.TestCase):
    def test_heaps_that_change_between_two_calls(self):
        heap = (2, [((0, 2), (0, 2))])
        first = [parting_of(heap), covered_without(heap, (2, [])), covered_both(heap, heap)]
        heap[1].append(((2, 3), (0, 2)))
        self.assertEqual(first, [[((0, 2), (0, 2))]] * 3)
        self.assertEqual(told(self, parting_of, heap), [((0, 3), (0, 2))])
        parting = parting_of(heap)
        heap[1].clear()
        self.assertEqual(parting, [((0, 3), (0, 2))])
        self.assertIs(is_parting(heap, parting), False)
        self.assertEqual(told(self, parting_of, heap), [])


if __name__ == "__main__":
    unittest.main()
