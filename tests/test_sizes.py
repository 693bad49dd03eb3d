import itertools
import math
import time
import unittest

from boxcover.errors import NoBox, NoHeap
from boxcover.sizes import covered_size, size_within, sizes_often, sums_of_sets
from tests.helper import (
    FAR, LIMITS, LONG, PLACES_HIGH, PLACES_LOW, UNIT, all_stretches, counted, drawn_apart, holds_plainly, no_boxes,
    no_heaps, refused, told,
)

ASKS = [covered_size, sizes_often, sums_of_sets]
SPACE = (3, [((0, 2), (0, 3), (0, 5)), ((1, 4), (2, 9), (-3, 1)), ((2, 3), (3, 4), (5, 6))])


def all_told(test, heap):
    return [told(test, ask, heap) for ask in ASKS]


def sums_one_by_one(one):
    """The sums over all sets, each set made and its spots looked for."""
    sums = []
    many = len(one.near[1])
    for chosen in range(1, many + 1):
        sets = [set(numbers) for numbers in itertools.combinations(range(many), chosen)]
        sums.append(sum(one.size_where(lambda spot, numbers: each <= set(numbers)) for each in sets))
    return sums


class TestSizes(unittest.TestCase):
    def test_of_no_boxes(self):
        for ways in UNIT:
            self.assertEqual(all_told(self, (ways, [])), [0, [], []])

    def test_of_one_box(self):
        self.assertEqual(all_told(self, (1, [((-3, 4),)])), [7, [7], [7]])
        self.assertEqual(all_told(self, (2, [((-3, 4), (0, 2))])), [14, [14], [14]])
        self.assertEqual(all_told(self, (3, [((-3, 4), (0, 2), (8, 11))])), [42, [42], [42]])

    def test_over_one_another(self):
        self.assertEqual(all_told(self, (1, [((0, 5),), ((3, 9),), ((4, 6),)])), [9, [6, 2, 1], [13, 5, 1]])
        self.assertEqual(all_told(self, (2, [((0, 4), (0, 4)), ((2, 6), (1, 3))])), [20, [16, 4], [24, 4]])
        self.assertEqual(all_told(self, SPACE), [114, [113, 1], [115, 1, 0]])

    def test_alike(self):
        for ways, most in LIMITS.items():
            for many in range(1, most + 1):
                size = 3 ** ways
                sums = [math.comb(many, chosen) * size for chosen in range(1, many + 1)]
                heap = (ways, [((-1, 2),) * ways] * many)
                self.assertEqual(all_told(self, heap), [size, [0] * (many - 1) + [size], sums])

    def test_apart_and_beside(self):
        for ways, most in LIMITS.items():
            for step in (1, 2):
                boxes = [((step * place, step * place + 1),) + UNIT[ways][1:] for place in range(most)]
                self.assertEqual(all_told(self, (ways, boxes)), [most, [most], [most] + [0] * (most - 1)])

    def test_within_one_another(self):
        for ways, most in LIMITS.items():
            boxes = [((0, place),) * ways for place in range(1, most + 1)]
            rings = [(most - times) ** ways - (most - times - 1) ** ways for times in range(most)]
            self.assertEqual(told(self, covered_size, (ways, boxes)), most ** ways)
            self.assertEqual(told(self, sizes_often, (ways, boxes)), rings)

    def test_far_out(self):
        for ways, most in LIMITS.items():
            size = (2 * FAR) ** ways
            self.assertEqual(all_told(self, (ways, [((-FAR, FAR),) * ways])), [size, [size], [size]])
            sums = [math.comb(most, chosen) * size for chosen in range(1, most + 1)]
            heap = (ways, [((-FAR, FAR),) * ways] * most)
            self.assertEqual(all_told(self, heap), [size, [0] * (most - 1) + [size], sums])
            ends = (ways, [((-FAR, 1 - FAR),) * ways, ((FAR - 1, FAR),) * ways])
            self.assertEqual(all_told(self, ends), [2, [2], [2, 0]])

    def test_against_counting(self):
        for ways in UNIT:
            for one in counted(ways):
                self.assertEqual(told(self, covered_size, one.heap), one.covered(), one.heap)
                self.assertEqual(told(self, sizes_often, one.heap), one.often(), one.heap)


class TestSumsOfSets(unittest.TestCase):
    def test_against_sets_one_by_one(self):
        for ways in UNIT:
            for one in counted(ways, 30):
                if len(one.near[1]) <= 6:
                    self.assertEqual(told(self, sums_of_sets, one.heap), sums_one_by_one(one), one.heap)

    def test_against_counting(self):
        for ways in UNIT:
            for one in counted(ways):
                wanted = []
                for many in range(1, len(one.near[1]) + 1):
                    sets = [one.weight(spot) * math.comb(len(held), many) for spot, held in one.holders.items()]
                    wanted.append(sum(sets))
                self.assertEqual(told(self, sums_of_sets, one.heap), wanted, one.heap)

    def test_soon_of_twenty_boxes(self):
        # Twenty boxes have more than a million sets: whoever makes them takes a second or more for each heap.
        heaps = [(1, [((-place * step, FAR - place),) for place in range(20)]) for step in range(1, 51)]
        before = time.process_time()
        for heap in heaps:
            sums_of_sets(heap)
        self.assertLess(time.process_time() - before, 10)

    def test_of_twenty_boxes(self):
        # Each box is one longer than the one ahead of it: the least of a set is what all of it hold.
        heap = (1, [((0, place),) for place in range(1, 21)])
        wanted = [sum(least * math.comb(20 - least, many - 1) for least in range(1, 21)) for many in range(1, 21)]
        self.assertEqual(told(self, sums_of_sets, heap), wanted)


class TestWithin(unittest.TestCase):
    def test_on_a_line(self):
        heap = (1, [((0, 5),), ((3, 9),), ((12, 14),)])
        for box, size in [((0, 14), 11), ((-9, 99), 11), ((4, 13), 6), ((9, 12), 0), ((8, 13), 2), ((5, 6), 1)]:
            self.assertEqual(told(self, size_within, heap, (box,)), size, box)

    def test_in_a_plane_and_in_space(self):
        plane = (2, [((0, 4), (0, 4)), ((2, 6), (1, 3))])
        self.assertEqual(told(self, size_within, plane, ((3, 5), (0, 9))), 6)
        self.assertEqual(told(self, size_within, plane, ((4, 6), (3, 4))), 0)
        self.assertEqual(told(self, size_within, plane, ((0, 4), (0, 4))), 16)
        self.assertEqual(told(self, size_within, SPACE, ((1, 3), (2, 4), (0, 6))), 5 + 1 + 2 + 1)
        self.assertEqual(told(self, size_within, SPACE, ((4, 5), (2, 4), (0, 6))), 0)

    def test_of_no_boxes(self):
        for ways in UNIT:
            self.assertEqual(told(self, size_within, (ways, []), UNIT[ways]), 0)

    def test_far_out_and_beyond(self):
        for ways, most in LIMITS.items():
            heap = (ways, [((-FAR, FAR),) * ways] * most)
            self.assertEqual(told(self, size_within, heap, ((-FAR, FAR),) * ways), (2 * FAR) ** ways)
            self.assertEqual(told(self, size_within, heap, ((-LONG, LONG),) * ways), (2 * FAR) ** ways)
            self.assertEqual(told(self, size_within, heap, ((FAR - 1, FAR),) * ways), 1)
            self.assertEqual(told(self, size_within, heap, ((FAR, FAR + 1),) + ((-FAR, FAR),) * (ways - 1)), 0)

    def test_against_counting(self):
        stretches = all_stretches(PLACES_LOW, PLACES_HIGH)
        for ways in UNIT:
            for turn, one in enumerate(counted(ways)):
                for again in range(4):
                    box = tuple(stretches[(turn * 7 + again * 11 + way * 5) % len(stretches)] for way in range(ways))
                    wanted = one.size_where(lambda spot, numbers: holds_plainly(box, spot))
                    asked = drawn_apart(box, one.places)
                    self.assertEqual(told(self, size_within, one.heap, asked), wanted, (one.heap, asked))


class TestRefusals(unittest.TestCase):
    def test_no_heap_goes_first(self):
        for thing in no_heaps():
            for ask in ASKS:
                refused(self, NoHeap, ask, thing)
            for box in [UNIT[1], UNIT[2], None, [], 0]:
                refused(self, NoHeap, size_within, thing, box)

    def test_what_is_no_box(self):
        for ways, unit in UNIT.items():
            wrong = no_boxes(ways) + [UNIT[other] for other in UNIT if other != ways]
            for heap, thing in itertools.product([(ways, []), (ways, [unit])], wrong):
                refused(self, NoBox, size_within, heap, thing)
            # The number of a box is no box.
            refused(self, NoBox, size_within, (ways, [unit]), 0)


class TestNothingIsKept(unittest.TestCase):
    def test_a_heap_that_changes_between_two_calls(self):
        heap = (2, [((0, 2), (0, 2))])
        first = all_told(self, heap)
        self.assertEqual(size_within(heap, ((1, 9), (0, 9))), 2)
        heap[1].append(((1, 3), (0, 1)))
        self.assertEqual(first, [4, [4], [4]])
        self.assertEqual(all_told(self, heap), [5, [4, 1], [6, 1]])
        self.assertEqual(size_within(heap, ((1, 9), (0, 9))), 3)
        heap[1].clear()
        self.assertEqual(all_told(self, heap), [0, [], []])


if __name__ == "__main__":
    unittest.main()
