import itertools
import unittest

from boxcover.boxes import how_often, is_heap
from boxcover.errors import NoHeap, NoNumber, NoWays
from boxcover.plane import areas_often, covered_area, cut_at, lengths_across
from tests.helper import (
    FAR, LIMITS, LONG, PLACES_HIGH, PLACES_LOW, UNIT, counted, drawn_apart, no_heaps, refused, spots, things, told,
)

PLANE = (2, [((0, 4), (0, 4)), ((0, 4), (0, 4)), ((1, 3), (1, 2)), ((4, 6), (4, 7)), ((4, 5), (0, 4))])
SPACE = (3, [((0, 2), (0, 3), (0, 5)), ((1, 4), (2, 9), (-3, 1)), ((2, 3), (3, 4), (5, 6))])
NO_WHOLE = [thing for thing in things() if type(thing) is not int]


def plane_told(test, heap):
    across = [told(test, lengths_across, heap, way) for way in (0, 1)]
    return [told(test, covered_area, heap), told(test, areas_often, heap)] + across


def is_way_plainly(ways, thing):
    return type(thing) is int and 0 <= thing < ways


class TestCuts(unittest.TestCase):
    def test_of_a_plane(self):
        self.assertEqual(told(self, cut_at, PLANE, 0, 1), (1, [((0, 4),), ((0, 4),), ((1, 2),)]))
        self.assertEqual(told(self, cut_at, PLANE, 0, 4), (1, [((4, 7),), ((0, 4),)]))
        self.assertEqual(told(self, cut_at, PLANE, 1, 1), (1, [((0, 4),), ((0, 4),), ((1, 3),), ((4, 5),)]))
        self.assertEqual(told(self, cut_at, PLANE, 1, 6), (1, [((4, 6),)]))
        self.assertEqual(told(self, cut_at, PLANE, 1, -1), (1, []))

    def test_of_space(self):
        self.assertEqual(told(self, cut_at, SPACE, 0, 1), (2, [((0, 3), (0, 5)), ((2, 9), (-3, 1))]))
        self.assertEqual(told(self, cut_at, SPACE, 1, 3), (2, [((1, 4), (-3, 1)), ((2, 3), (5, 6))]))
        self.assertEqual(told(self, cut_at, SPACE, 2, 0), (2, [((0, 2), (0, 3)), ((1, 4), (2, 9))]))
        self.assertEqual(told(self, cut_at, SPACE, 2, 5), (2, [((2, 3), (3, 4))]))

    def test_of_no_boxes(self):
        for ways in (2, 3):
            for way, number in itertools.product(range(ways), [0, -FAR, FAR, LONG]):
                self.assertEqual(told(self, cut_at, (ways, []), way, number), (ways - 1, []))

    def test_a_low_is_in_a_high_is_not(self):
        for low, high in [(3, 7), (-FAR, FAR), (-1, 0)]:
            for ways in (2, 3):
                for way in range(ways):
                    parts = list(((10, 12), (20, 23), (30, 34))[:ways])
                    rest = tuple(parts[:way] + parts[way + 1:])
                    parts[way] = (low, high)
                    for number, boxes in [(low - 1, []), (low, [rest]), (high - 1, [rest]), (high, [])]:
                        heap = (ways, [tuple(parts)])
                        self.assertEqual(told(self, cut_at, heap, way, number), (ways - 1, boxes))

    def test_numbers_of_forty_figures(self):
        for number in [LONG, -LONG, 10 ** 40 - 1]:
            self.assertEqual(told(self, cut_at, PLANE, 0, number), (1, []))
            self.assertEqual(told(self, cut_at, SPACE, 2, number), (2, []))

    def test_as_many_boxes_as_may_be_in_their_order(self):
        for ways in (2, 3):
            boxes = [((place % 2, 9), (-place, 1), (place, place + 1))[:ways] for place in range(LIMITS[ways])]
            self.assertEqual(told(self, cut_at, (ways, boxes), 0, 1), (ways - 1, [box[1:] for box in boxes]))
            self.assertEqual(told(self, cut_at, (ways, boxes), 0, 0), (ways - 1, [box[1:] for box in boxes[::2]]))

    def test_a_cut_covers_what_the_spots_of_that_number_tell(self):
        for ways in (2, 3):
            for one in counted(ways, 12):
                for way, number in itertools.product(range(ways), range(PLACES_LOW, PLACES_HIGH)):
                    cut = cut_at(one.heap, way, drawn_apart(number, one.places))
                    self.assertTrue(is_heap(cut))
                    for rest in spots(ways - 1, PLACES_LOW, PLACES_HIGH):
                        times = len(one.holders.get(rest[:way] + (number,) + rest[way:], []))
                        self.assertEqual(how_often(cut, drawn_apart(rest, one.places)), times, (one.heap, way, number))


class TestInAPlane(unittest.TestCase):
    def test_of_no_boxes(self):
        self.assertEqual(plane_told(self, (2, [])), [0, [], [], []])

    def test_of_one_box(self):
        self.assertEqual(plane_told(self, (2, [((1, 3), (-2, 3))])), [10, [10], [(1, 3, 5)], [(-2, 3, 2)]])

    def test_over_one_another(self):
        self.assertEqual(plane_told(self, PLANE), [
            26, [10, 14, 2], [(0, 4, 4), (4, 5, 7), (5, 6, 3)], [(0, 4, 5), (4, 7, 2)]])

    def test_alike(self):
        for many in range(1, 11):
            heap = (2, [((0, 3), (5, 7))] * many)
            self.assertEqual(plane_told(self, heap), [6, [0] * (many - 1) + [6], [(0, 3, 2)], [(5, 7, 3)]])

    def test_beside_one_another_as_long(self):
        heap = (2, [((2, 5), (10, 13)), ((0, 2), (0, 3))])
        self.assertEqual(plane_told(self, heap), [15, [15], [(0, 5, 3)], [(0, 3, 2), (10, 13, 3)]])

    def test_as_long_with_a_gap_between(self):
        heap = (2, [((0, 2), (0, 3)), ((3, 5), (0, 3))])
        self.assertEqual(plane_told(self, heap), [12, [12], [(0, 2, 3), (3, 5, 3)], [(0, 3, 4)]])

    def test_as_long_by_other_boxes(self):
        # Where boxes come and go and the length stays, the stretch goes on; the two parts of a cut count together.
        heap = (2, [((0, 6), (0, 2)), ((0, 2), (5, 7)), ((2, 4), (8, 10)), ((4, 6), (0, 2))])
        self.assertEqual(plane_told(self, heap)[2], [(0, 4, 4), (4, 6, 2)])

    def test_within_one_another(self):
        heap = (2, [((2, 3), (2, 3)), ((0, 9), (0, 9)), ((1, 4), (1, 4))])
        self.assertEqual(plane_told(self, heap), [81, [72, 8, 1], [(0, 9, 9)], [(0, 9, 9)]])

    def test_apart(self):
        heap = (2, [((8, 9), (8, 9)), ((0, 2), (0, 1))])
        self.assertEqual(plane_told(self, heap), [3, [3], [(0, 2, 1), (8, 9, 1)], [(0, 1, 2), (8, 9, 1)]])

    def test_ten_boxes(self):
        stairs = (2, [((place, 10), (0, place + 1)) for place in range(10)])
        wanted = [(place, place + 1, place + 1) for place in range(10)]
        self.assertEqual(plane_told(self, stairs)[0], 55)
        self.assertEqual(plane_told(self, stairs)[2], wanted)
        self.assertEqual(plane_told(self, stairs)[3], [(place, place + 1, 10 - place) for place in range(10)])

    def test_far_out(self):
        self.assertEqual(plane_told(self, (2, [((-FAR, FAR), (-FAR, FAR))])), [
            4 * FAR * FAR, [4 * FAR * FAR], [(-FAR, FAR, 2 * FAR)], [(-FAR, FAR, 2 * FAR)]])
        ends = (2, [((-FAR, 1 - FAR), (FAR - 1, FAR)), ((FAR - 1, FAR), (-FAR, FAR))])
        self.assertEqual(plane_told(self, ends), [
            2 * FAR + 1, [2 * FAR + 1], [(-FAR, 1 - FAR, 1), (FAR - 1, FAR, 2 * FAR)],
            [(-FAR, FAR - 1, 1), (FAR - 1, FAR, 2)]])

    def test_counts_that_no_spot_has_are_told_as_0(self):
        heap = (2, [((0, 1), (0, 3))] * 3 + [((5, 9), (5, 6))])
        self.assertEqual(told(self, areas_often, heap), [4, 0, 3])

    def test_against_counting(self):
        for one in counted(2):
            self.assertEqual(told(self, covered_area, one.heap), one.covered(), one.heap)
            self.assertEqual(told(self, areas_often, one.heap), one.often(), one.heap)
            for way in (0, 1):
                self.assertEqual(told(self, lengths_across, one.heap, way), self.across(one, way), (one.heap, way))

    def across(self, one, way):
        found = []
        for number in range(PLACES_LOW, PLACES_HIGH):
            length = sum(one.width(spot[1 - way]) for spot in one.holders if spot[way] == number)
            low = drawn_apart(number, one.places)
            high = drawn_apart(number + 1, one.places)
            if found and found[-1][1:] == (low, length):
                found[-1] = (found[-1][0], high, length)
            elif length:
                found.append((low, high, length))
        return found


class TestRefusals(unittest.TestCase):
    def test_no_heap_goes_first(self):
        for thing in no_heaps():
            for ask in [covered_area, areas_often]:
                refused(self, NoHeap, ask, thing)
            for way in [0, 5, None]:
                refused(self, NoHeap, lengths_across, thing, way)
                refused(self, NoHeap, cut_at, thing, way, 0)
                refused(self, NoHeap, cut_at, thing, way, "0")

    def test_no_ways_goes_ahead_of_no_number(self):
        lines = [(1, []), (1, [UNIT[1]]), (1, [UNIT[1]] * 20)]
        for heap in lines + [(3, []), (3, [UNIT[3]]), (3, [UNIT[3]] * 6)]:
            for ask in [covered_area, areas_often]:
                refused(self, NoWays, ask, heap)
            for thing in things():
                refused(self, NoWays, lengths_across, heap, thing)
        for heap, thing in itertools.product(lines, things()):
            refused(self, NoWays, cut_at, heap, 0, thing)
            refused(self, NoWays, cut_at, heap, thing, 0)
            refused(self, NoWays, cut_at, heap, thing, thing)

    def test_what_is_no_way(self):
        for ways in (2, 3):
            wrong = [thing for thing in things() if not is_way_plainly(ways, thing)] + [ways, -1, -ways, "0", (0,), [1]]
            for heap, way in itertools.product([(ways, []), (ways, [UNIT[ways]])], wrong):
                refused(self, NoNumber, cut_at, heap, way, 0)
                refused(self, NoNumber, cut_at, heap, way, None)
                if ways == 2:
                    refused(self, NoNumber, lengths_across, heap, way)

    def test_each_way_there_is(self):
        for ways in (2, 3):
            for way in range(ways):
                self.assertEqual(told(self, cut_at, (ways, [UNIT[ways]]), way, 0), (ways - 1, [UNIT[ways - 1]]))

    def test_what_is_no_number_of_a_cut(self):
        for ways in (2, 3):
            for heap, way, number in itertools.product([(ways, []), (ways, [UNIT[ways]])], range(ways), NO_WHOLE):
                refused(self, NoNumber, cut_at, heap, way, number)


class TestNothingIsKept(unittest.TestCase):
    def test_a_heap_that_changes_between_two_calls(self):
        heap = (2, [((0, 2), (0, 2))])
        cut = cut_at(heap, 0, 1)
        first = plane_told(self, heap)
        heap[1].append(((1, 3), (0, 1)))
        self.assertEqual(cut, (1, [((0, 2),)]))
        self.assertEqual(first, [4, [4], [(0, 2, 2)], [(0, 2, 2)]])
        self.assertEqual(plane_told(self, heap), [5, [4, 1], [(0, 2, 2), (2, 3, 1)], [(0, 1, 3), (1, 2, 2)]])
        self.assertEqual(cut_at(heap, 0, 1), (1, [((0, 2),), ((0, 1),)]))
        heap[1].clear()
        self.assertEqual(plane_told(self, heap), [0, [], [], []])

    def test_a_cut_that_is_changed_changes_no_heap(self):
        heap = (2, [((0, 2), (0, 2))])
        cut = cut_at(heap, 0, 1)
        cut[1].append(((5, 6),))
        self.assertEqual(heap, (2, [((0, 2), (0, 2))]))
        self.assertEqual(cut_at(heap, 0, 1), (1, [((0, 2),)]))


if __name__ == "__main__":
    unittest.main()
