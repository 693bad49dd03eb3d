"""What the points say between the modules: whichever way it is reckoned, the same is covered."""

import itertools
import unittest

from boxcover.boxes import boxes_at, how_often, size_of, span_of
from boxcover.line import covered_length, gaps_of, lengths_often, pieces_at_least, pieces_of
from boxcover.plane import areas_often, covered_area, cut_at, lengths_across
from boxcover.sizes import covered_size, size_within, sizes_often, sums_of_sets
from boxcover.whose import fewest_same, most_often, needless, own_sizes
from tests.helper import NEAR_PLACES, UNIT, counted


def without(heap, number):
    return (heap[0], heap[1][:number] + heap[1][number + 1:])


def by_turns(sums):
    return sum(size if place % 2 == 0 else -size for place, size in enumerate(sums))


def size_by_cuts(heap, way):
    """How much a heap of more ways than one covers, by cuts between the ends of its boxes alone."""
    ends = sorted(set(itertools.chain(*[box[way] for box in heap[1]])))
    return sum((high - low) * covered_size(cut_at(heap, way, low)) for low, high in zip(ends, ends[1:]))


class TestTheSameIsCovered(unittest.TestCase):
    def test_sums_of_sets_by_turns(self):
        for ways in UNIT:
            for one in counted(ways):
                self.assertEqual(by_turns(sums_of_sets(one.heap)), covered_size(one.heap), one.heap)

    def test_the_first_sum_is_of_all_sizes(self):
        for ways in UNIT:
            for one in counted(ways):
                sizes = [size_of(one.heap, number) for number in range(len(one.heap[1]))]
                self.assertEqual(sum(sums_of_sets(one.heap)[:1]), sum(sizes), one.heap)
                often = sizes_often(one.heap)
                self.assertEqual(sum(times * size for times, size in enumerate(often, start=1)), sum(sizes), one.heap)

    def test_sizes_held_just_so_often(self):
        for ways in UNIT:
            for one in counted(ways):
                self.assertEqual(sum(sizes_often(one.heap)), covered_size(one.heap), one.heap)

    def test_on_a_line(self):
        for one in counted(1):
            pieces = pieces_of(one.heap)
            self.assertEqual(covered_length(one.heap), covered_size(one.heap), one.heap)
            self.assertEqual(lengths_often(one.heap), sizes_often(one.heap), one.heap)
            self.assertEqual(sum(high - low for low, high in pieces), covered_size(one.heap), one.heap)
            for low, high in pieces:
                self.assertEqual(size_within(one.heap, ((low, high),)), high - low, one.heap)
            for gap in gaps_of(one.heap):
                self.assertEqual(size_within(one.heap, (gap,)), 0, one.heap)
            for k in range(1, len(one.heap[1]) + 1):
                long = sum(high - low for low, high in pieces_at_least(one.heap, k))
                self.assertEqual(long, sum(sizes_often(one.heap)[k - 1:]), (one.heap, k))

    def test_in_a_plane(self):
        for one in counted(2):
            self.assertEqual(covered_area(one.heap), covered_size(one.heap), one.heap)
            self.assertEqual(areas_often(one.heap), sizes_often(one.heap), one.heap)
            for way in (0, 1):
                across = lengths_across(one.heap, way)
                area = sum((high - low) * length for low, high, length in across)
                self.assertEqual(area, covered_size(one.heap), (one.heap, way))

    def test_lengths_across_are_those_of_cuts(self):
        for one in counted(2, 20):
            for way in (0, 1):
                for low, high, length in lengths_across(one.heap, way):
                    for number in {low, (low + high) // 2, high - 1}:
                        self.assertEqual(covered_length(cut_at(one.heap, way, number)), length, (one.heap, way, number))
                    for number in (low - 1, high):
                        self.assertNotEqual(covered_length(cut_at(one.heap, way, number)), length, (one.heap, way))

    def test_by_cuts(self):
        for ways in (2, 3):
            for one in counted(ways, 20):
                for way in range(ways):
                    self.assertEqual(size_by_cuts(one.heap, way), covered_size(one.heap), (one.heap, way))

    def test_a_cut_covers_what_lies_in_the_box_of_that_number(self):
        for ways in (2, 3):
            for one in counted(ways, 10):
                if one.places == NEAR_PLACES and one.heap[1]:
                    span = span_of(one.heap)
                    for way in range(ways):
                        for number in range(span[way][0] - 1, span[way][1] + 1):
                            box = span[:way] + ((number, number + 1),) + span[way + 1:]
                            size = covered_size(cut_at(one.heap, way, number))
                            self.assertEqual(size, size_within(one.heap, box), (one.heap, way, number))

    def test_within_boxes(self):
        for ways in UNIT:
            for one in counted(ways):
                if one.heap[1]:
                    self.assertEqual(size_within(one.heap, span_of(one.heap)), covered_size(one.heap), one.heap)
                for number, box in enumerate(one.heap[1]):
                    self.assertEqual(size_within(one.heap, box), size_of(one.heap, number), one.heap)


class TestWhose(unittest.TestCase):
    def test_own_sizes_come_to_what_just_one_holds(self):
        for ways in UNIT:
            for one in counted(ways):
                self.assertEqual(sum(own_sizes(one.heap)), sum(sizes_often(one.heap)[:1]), one.heap)

    def test_own_sizes_are_what_is_lost_without_a_box(self):
        for ways in UNIT:
            for one in counted(ways, 20):
                whole = covered_size(one.heap)
                own = own_sizes(one.heap)
                lost = [whole - covered_size(without(one.heap, number)) for number in range(len(own))]
                self.assertEqual(own, lost, one.heap)
                wanted = [number for number, size in enumerate(lost) if size == 0]
                self.assertEqual(needless(one.heap), wanted, one.heap)

    def test_the_most_often(self):
        for ways in UNIT:
            for one in counted(ways):
                if one.heap[1]:
                    times, spot = most_often(one.heap)
                    self.assertEqual(times, len(sizes_often(one.heap)), one.heap)
                    self.assertEqual(times, how_often(one.heap, spot), one.heap)
                    self.assertEqual(times, len(boxes_at(one.heap, spot)), one.heap)

    def test_the_fewest_cover_the_same(self):
        for ways in UNIT:
            for one in counted(ways):
                if len(one.heap[1]) <= 10:
                    chosen = fewest_same(one.heap)
                    self.assertEqual(chosen, sorted(set(chosen)), one.heap)
                    fewer = (ways, [one.heap[1][number] for number in chosen])
                    self.assertEqual(covered_size(fewer), covered_size(one.heap), one.heap)
                    self.assertEqual(needless(fewer), [], one.heap)


if __name__ == "__main__":
    unittest.main()
