import itertools
import unittest

from boxcover.boxes import boxes_at, common_of, how_often, is_box, is_heap, size_of, span_of
from boxcover.errors import NoBox, NoHeap, NoSpot
from tests.helper import (
    FAR, LIMITS, LONG, UNIT, all_stretches, holds_plainly, no_boxes, no_heaps, no_stretches, refused, spots, things,
    told,
)

PLANE = (2, [
    ((0, 4), (0, 4)),
    ((0, 4), (0, 4)),
    ((1, 3), (1, 2)),
    ((4, 6), (4, 7)),
    ((4, 5), (0, 4)),
    ((-9, -7), (-5, -1)),
])
SPACE = (3, [((0, 2), (0, 3), (0, 5)), ((1, 4), (2, 9), (-3, 1)), ((2, 3), (3, 4), (5, 6))])


def small_heaps():
    """Heaps of each number of ways, small enough to count spots in -1..4 one by one."""
    line = [(one,) for one in all_stretches(0, 3)]
    for boxes in itertools.chain(*[itertools.product(line, repeat=many) for many in range(4)]):
        yield (1, list(boxes))
    plane = list(itertools.product(all_stretches(0, 2), repeat=2))
    for boxes in itertools.chain(*[itertools.product(plane, repeat=many) for many in range(3)]):
        yield (2, list(boxes))
    space = list(itertools.product(all_stretches(0, 2), repeat=3))
    for pair in itertools.product(space[::2], space[::3]):
        yield (3, list(pair))


class TestWhatABoxIs(unittest.TestCase):
    def test_boxes_of_each_number_of_ways(self):
        for ways, unit in UNIT.items():
            self.assertIs(told(self, is_box, ways, unit), True)
            for other in UNIT:
                self.assertIs(is_box(other, unit), ways == other)

    def test_numbers_far_out_and_beyond(self):
        self.assertIs(is_box(1, ((-FAR, FAR),)), True)
        self.assertIs(is_box(2, ((-LONG, LONG), (FAR, FAR + 1))), True)
        self.assertIs(is_box(3, ((-1, 0), (-LONG - 1, -LONG), (LONG, LONG + 1))), True)

    def test_what_is_no_box(self):
        for ways in UNIT:
            for thing in no_boxes(ways):
                with self.subTest(ways=ways, thing=thing):
                    self.assertIs(told(self, is_box, ways, thing), False)

    def test_no_box_has_other_ways(self):
        others = [thing for thing in things() if thing is True or thing not in [1, 2, 3]]
        for ways in others + [5, -3, "2", [2], (2,), {2: 10}]:
            for thing in list(UNIT.values()) + [(), ((0, 1),) * 4] + things():
                with self.subTest(ways=ways, thing=thing):
                    self.assertIs(told(self, is_box, ways, thing), False)

    def test_a_wrong_stretch_in_each_place(self):
        for bad in no_stretches():
            self.assertIs(is_box(1, (bad,)), False, bad)
            self.assertIs(is_box(2, ((0, 1), bad)), False, bad)
            self.assertIs(is_box(2, (bad, (0, 1))), False, bad)
            self.assertIs(is_box(3, ((0, 1), bad, (0, 1))), False, bad)


class TestWhatAHeapIs(unittest.TestCase):
    def test_heaps(self):
        for ways, unit in UNIT.items():
            self.assertIs(told(self, is_heap, (ways, [])), True)
            self.assertIs(told(self, is_heap, (ways, [unit])), True)
            self.assertIs(told(self, is_heap, (ways, [unit, unit])), True)
        self.assertIs(told(self, is_heap, PLANE), True)
        self.assertIs(told(self, is_heap, SPACE), True)
        self.assertIs(is_heap((1, [((-FAR, FAR),), ((-LONG, LONG),)])), True)

    def test_as_many_boxes_as_may_be_and_one_more(self):
        for ways, most in [(1, 20), (2, 10), (3, 6)]:
            boxes = [((place, place + 1),) * ways for place in range(most + 1)]
            self.assertIs(is_heap((ways, boxes[:most])), True)
            self.assertIs(is_heap((ways, boxes)), False)
            self.assertIs(is_heap((ways, [UNIT[ways]] * most)), True)
            self.assertIs(is_heap((ways, [UNIT[ways]] * (most + 1))), False)

    def test_what_is_no_heap(self):
        for thing in no_heaps():
            with self.subTest(thing=thing):
                self.assertIs(told(self, is_heap, thing), False)

    def test_the_last_of_many_boxes_counts_too(self):
        for ways, most in LIMITS.items():
            self.assertIs(is_heap((ways, [UNIT[ways]] * (most - 1) + [list(UNIT[ways])])), False)


class TestSizes(unittest.TestCase):
    def test_ordinary_sizes(self):
        self.assertEqual(told(self, size_of, (1, [((3, 10),), ((-4, -3),)]), 0), 7)
        self.assertEqual(told(self, size_of, (1, [((3, 10),), ((-4, -3),)]), 1), 1)
        self.assertEqual([told(self, size_of, PLANE, number) for number in range(6)], [16, 16, 2, 6, 4, 8])
        self.assertEqual([told(self, size_of, SPACE, number) for number in range(3)], [30, 84, 1])

    def test_great_sizes(self):
        for ways in UNIT:
            self.assertEqual(size_of((ways, [((-FAR, FAR),) * ways]), 0), (2 * FAR) ** ways)

    def test_the_size_is_how_many_spots_it_holds(self):
        for heap in small_heaps():
            for number in range(len(heap[1])):
                one = (heap[0], [heap[1][number]])
                held = sum(how_often(one, spot) for spot in spots(heap[0], -1, 4))
                self.assertEqual(size_of(heap, number), held, (heap, number))

    def test_the_last_number_and_the_one_behind(self):
        for ways, most in LIMITS.items():
            heap = (ways, [((0, place + 1),) + UNIT[ways][1:] for place in range(most)])
            self.assertEqual(size_of(heap, most - 1), most)
            refused(self, NoBox, size_of, heap, most)

    def test_what_is_no_boxs_number(self):
        for heap in [(1, []), (1, [UNIT[1]]), (2, [UNIT[2]]), (3, [UNIT[3]])]:
            for thing in things():
                if type(thing) is int and thing == 0 and heap[1]:
                    continue
                refused(self, NoBox, size_of, heap, thing)
        refused(self, NoBox, size_of, PLANE, True)
        refused(self, NoBox, size_of, PLANE, False)
        refused(self, NoBox, size_of, PLANE, -1)
        refused(self, NoBox, size_of, PLANE, -6)
        refused(self, NoBox, size_of, PLANE, 6)
        refused(self, NoBox, size_of, PLANE, PLANE[1][0])

    def test_no_heap_goes_first(self):
        for thing in no_heaps():
            refused(self, NoHeap, size_of, thing, 0)
            refused(self, NoHeap, size_of, thing, None)


class TestSpots(unittest.TestCase):
    def test_which_boxes_hold_a_spot(self):
        self.assertEqual(told(self, boxes_at, PLANE, (1, 1)), [0, 1, 2])
        self.assertEqual(told(self, boxes_at, PLANE, (0, 0)), [0, 1])
        self.assertEqual(told(self, boxes_at, PLANE, (4, 4)), [3])
        self.assertEqual(told(self, boxes_at, PLANE, (4, 3)), [4])
        self.assertEqual(told(self, boxes_at, PLANE, (3, 4)), [])
        self.assertEqual(told(self, boxes_at, PLANE, (-8, -2)), [5])
        self.assertEqual(told(self, boxes_at, SPACE, (1, 2, 0)), [0, 1])
        self.assertEqual(told(self, boxes_at, SPACE, (2, 3, 5)), [2])
        self.assertEqual(told(self, boxes_at, (1, []), (0,)), [])

    def test_how_many_hold_a_spot(self):
        self.assertEqual(told(self, how_often, PLANE, (1, 1)), 3)
        self.assertEqual(told(self, how_often, PLANE, (3, 4)), 0)
        self.assertEqual(told(self, how_often, SPACE, (1, 2, 0)), 2)
        self.assertEqual(told(self, how_often, (3, []), (0, 0, 0)), 0)

    def test_a_low_is_in_a_high_is_not(self):
        for low, high in [(3, 7), (-FAR, FAR), (-1, 0), (0, 1)]:
            heap = (1, [((low, high),)])
            counts = [how_often(heap, (number,)) for number in [low - 1, low, high - 1, high]]
            self.assertEqual(counts, [0, 1, 1, 0])
            for way in range(3):
                box = [(0, 1), (0, 1), (0, 1)]
                box[way] = (low, high)
                for number, wanted in [(low - 1, []), (low, [0]), (high - 1, [0]), (high, [])]:
                    spot = [0, 0, 0]
                    spot[way] = number
                    self.assertEqual(boxes_at((3, [tuple(box)]), tuple(spot)), wanted)

    def test_as_many_boxes_as_may_be(self):
        for ways, most in LIMITS.items():
            heap = (ways, [((-place, place + 1),) * ways for place in range(most)])
            self.assertEqual(told(self, boxes_at, heap, (0,) * ways), list(range(most)))
            self.assertEqual(told(self, boxes_at, heap, (most - 1,) * ways), [most - 1])
            self.assertEqual(told(self, how_often, heap, (1,) * ways), most - 1)
            self.assertEqual(how_often(heap, (LONG,) * ways), 0)

    def test_every_spot_of_small_heaps(self):
        for heap in small_heaps():
            for spot in spots(heap[0], -1, 4):
                wanted = [number for number, box in enumerate(heap[1]) if holds_plainly(box, spot)]
                self.assertEqual(boxes_at(heap, spot), wanted, (heap, spot))
                self.assertEqual(how_often(heap, spot), len(wanted), (heap, spot))

    def test_what_is_no_spot(self):
        for ways, unit in UNIT.items():
            wrong = [thing for thing in things() if not self.is_spot_plainly(ways, thing)]
            wrong += [[0] * ways, (0,) * (ways - 1), (0,) * (ways + 1), dict.fromkeys(range(ways), 0), "0" * ways]
            for place, bad in itertools.product(range(ways), [True, False, None, "0", [0], (0,), {}, ((),)]):
                spot = [0] * ways
                spot[place] = bad
                wrong.append(tuple(spot))
            for heap in [(ways, [unit]), (ways, [])]:
                for ask, thing in itertools.product([how_often, boxes_at], wrong):
                    refused(self, NoSpot, ask, heap, thing)

    def is_spot_plainly(self, ways, thing):
        return type(thing) is tuple and len(thing) == ways and all(type(number) is int for number in thing)

    def test_no_heap_goes_first(self):
        for thing, ask in itertools.product(no_heaps(), [how_often, boxes_at]):
            refused(self, NoHeap, ask, thing, (0,))
            refused(self, NoHeap, ask, thing, None)


class TestCommon(unittest.TestCase):
    def test_ordinary_pairs(self):
        self.assertEqual(told(self, common_of, PLANE, 0, 1), ((0, 4), (0, 4)))
        self.assertEqual(told(self, common_of, PLANE, 0, 2), ((1, 3), (1, 2)))
        self.assertEqual(told(self, common_of, PLANE, 2, 0), ((1, 3), (1, 2)))
        self.assertIsNone(told(self, common_of, PLANE, 0, 3))
        self.assertIsNone(told(self, common_of, PLANE, 0, 4))
        self.assertIsNone(told(self, common_of, PLANE, 0, 5))
        self.assertEqual(told(self, common_of, SPACE, 0, 1), ((1, 2), (2, 3), (0, 1)))
        self.assertIsNone(told(self, common_of, SPACE, 1, 2))
        line = (1, [((0, 5),), ((3, 9),), ((5, 6),)])
        self.assertEqual(told(self, common_of, line, 0, 1), ((3, 5),))
        self.assertEqual(told(self, common_of, line, 1, 2), ((5, 6),))
        self.assertIsNone(told(self, common_of, line, 0, 2))

    def test_one_box_twice(self):
        for number, box in enumerate(PLANE[1]):
            self.assertEqual(told(self, common_of, PLANE, number, number), box)

    def test_far_out(self):
        heap = (2, [((-FAR, FAR), (-FAR, 0)), ((FAR - 1, FAR), (-1, FAR)), ((-FAR, FAR - 1), (0, 1))])
        self.assertEqual(common_of(heap, 0, 1), ((FAR - 1, FAR), (-1, 0)))
        self.assertIsNone(common_of(heap, 0, 2))
        self.assertIsNone(common_of(heap, 1, 2))

    def test_just_the_spots_that_both_hold(self):
        for heap in small_heaps():
            if len(heap[1]) != 2:
                continue
            both = {spot for spot in spots(heap[0], -1, 4) if how_often(heap, spot) == 2}
            common = common_of(heap, 0, 1)
            if common is None:
                self.assertEqual(both, set(), heap)
            else:
                self.assertTrue(is_box(heap[0], common))
                self.assertEqual(both, set(itertools.product(*[range(*part) for part in common])), heap)
            self.assertEqual(common_of(heap, 1, 0), common)

    def test_what_is_no_boxs_number(self):
        for heap in [(1, []), (1, [UNIT[1]]), (2, [UNIT[2]]), (3, [UNIT[3]])]:
            for thing in things() + [len(heap[1])]:
                if type(thing) is int and thing == 0 and heap[1]:
                    continue
                refused(self, NoBox, common_of, heap, thing, 0)
                refused(self, NoBox, common_of, heap, 0, thing)
                refused(self, NoBox, common_of, heap, thing, thing)
        for bad in [-1, -6, 6, True, False, "0", (0,)]:
            refused(self, NoBox, common_of, PLANE, 0, bad)
            refused(self, NoBox, common_of, PLANE, bad, 3)

    def test_no_heap_goes_first(self):
        for thing in no_heaps():
            refused(self, NoHeap, common_of, thing, 0, 0)
            refused(self, NoHeap, common_of, thing, None, -1)


class TestSpan(unittest.TestCase):
    def test_ordinary_spans(self):
        self.assertEqual(told(self, span_of, PLANE), ((-9, 6), (-5, 7)))
        self.assertEqual(told(self, span_of, SPACE), ((0, 4), (0, 9), (-3, 6)))
        self.assertEqual(told(self, span_of, (1, [((5, 6),), ((-2, -1),), ((0, 4),)])), ((-2, 6),))

    def test_of_no_boxes(self):
        for ways in UNIT:
            self.assertIsNone(told(self, span_of, (ways, [])))

    def test_of_one_box_and_alike_ones(self):
        for ways, unit in UNIT.items():
            for many in range(1, LIMITS[ways] + 1):
                self.assertEqual(span_of((ways, [unit] * many)), unit)

    def test_far_out(self):
        far = (3, [((-FAR, 1 - FAR),) * 3, ((FAR - 1, FAR),) * 3])
        self.assertEqual(span_of(far), ((-FAR, FAR),) * 3)

    def test_the_least_box_that_holds_all(self):
        for heap in small_heaps():
            covered = [spot for spot in spots(heap[0], -1, 4) if how_often(heap, spot) > 0]
            if covered:
                wanted = tuple((min(along), max(along) + 1) for along in zip(*covered))
                self.assertEqual(span_of(heap), wanted, heap)

    def test_no_heap(self):
        for thing in no_heaps():
            refused(self, NoHeap, span_of, thing)


class TestNothingIsKept(unittest.TestCase):
    def test_a_heap_that_changes_between_two_calls(self):
        heap = (1, [((0, 2),)])
        first = boxes_at(heap, (1,))
        span = span_of(heap)
        heap[1].append(((1, 9),))
        self.assertEqual(first, [0])
        self.assertEqual(span, ((0, 2),))
        self.assertEqual(boxes_at(heap, (1,)), [0, 1])
        self.assertEqual(how_often(heap, (1,)), 2)
        self.assertEqual(span_of(heap), ((0, 9),))
        self.assertEqual(size_of(heap, 1), 8)
        heap[1].clear()
        self.assertEqual(first, [0])
        self.assertIsNone(span_of(heap))
        refused(self, NoBox, size_of, heap, 0)
        heap[1].append("no box")
        self.assertIs(is_heap(heap), False)
        refused(self, NoHeap, span_of, heap)


if __name__ == "__main__":
    unittest.main()
