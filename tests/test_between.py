"""What the points say between the modules: whichever way it is reckoned, the same is covered."""

import itertools
import unittest

from boxcover.boxes import boxes_at, how_often, size_of, span_of
from boxcover.desk import Desk
from boxcover.heights import (
    area_under, fewest_houses, height_at, higher_of, houses_of, is_skyline, lower_of, skyline_of,
)
from boxcover.kept import Kept
from boxcover.line import covered_length, gaps_of, lengths_often, pieces_at_least, pieces_of
from boxcover.outlines import hole_sizes, outline_length, outline_of, piece_sizes
from boxcover.papers import paper_of, paper_says
from boxcover.parts import covered_both, covered_without, covers_same, is_parting, parting_of
from boxcover.plane import areas_often, covered_area, cut_at, lengths_across
from boxcover.sizes import covered_size, size_within, sizes_often, sums_of_sets
from boxcover.texts import (
    heap_text, houses_text, read_heap, read_houses, read_skyline, read_spot, skyline_text, spot_text,
)
from boxcover.whose import fewest_same, most_often, needless, own_sizes
from tests.helper import FAR, NEAR_PLACES, PLACES_HIGH, PLACES_LOW, UNIT, counted, drawn_apart, holds_plainly, spots

LETTERS = "abcdefghijklmnopqrst"


def without(heap, number):
    return (heap[0], heap[1][:number] + heap[1][number + 1:])


def by_turns(sums):
    return sum(size if place % 2 == 0 else -size for place, size in enumerate(sums))


def size_by_cuts(heap, way):
    """How much a heap of more ways than one covers, by cuts between the ends of its boxes alone."""
    ends = sorted(set(itertools.chain(*[box[way] for box in heap[1]])))
    return sum((high - low) * covered_size(cut_at(heap, way, low)) for low, high in zip(ends, ends[1:]))


def box_size(box):
    size = 1
    for low, high in box:
        size *= high - low
    return size


def turned_size(corners):
    """What a round goes about, below 0 where it turns to the right."""
    turns = zip(corners, corners[1:] + corners[:1])
    return sum(here[0] * there[1] - there[0] * here[1] for here, there in turns) // 2


def boxes_of_houses(houses):
    return (2, [((low, high), (0, height)) for low, high, height in houses])


def towns():
    """Houses, at most ten, over the stretches of boxes in the plane: near, and far out and high."""
    for one in counted(2, 40):
        houses = [box[0] + (box[1][1] - box[1][0],) for box in one.heap[1]]
        yield houses
        yield [(low, high, height % 3 + 1) for low, high, height in houses]


def kept_of(heap):
    """A Kept of the boxes of a heap, put from the last one on."""
    kept = Kept(heap[0])
    for number in reversed(range(len(heap[1]))):
        kept.put_box(LETTERS[number], heap[1][number])
    return kept


def desk_of(heap):
    desk = Desk()
    desk.answer(f"ways {heap[0]}")
    for name, word in zip(LETTERS, heap_text(heap).split(" ")[1:]):
        desk.answer(f"put {name} {word}")
    return desk


class TestTheSameIsCovered(unittest.TestCase):
    def test_sums_of_sets_by_turns(self):
        for ways in UNIT:
            for one in counted(ways):
                self.assertEqual(by_turns(sums_of_sets(one.heap)), covered_size(one.heap), one.heap)

    def test_the_first_sum_is_of_all_sizes(self):
        for ways in UNIT:
            for one in counted(ways):
                sizes = [size_of(one.heap, number) for number in range(len(one.heap[1]))]
                self.assertEqual(sum(sums_of_sets(one.heap)[:1]), sum(sizes), one.heap)
                often = sizes_often(one.heap)
                self.assertEqual(sum(times * size for times, size in enumerate(often, start=1)), sum(sizes), one.heap)

    def test_sizes_held_just_so_often(self):
        for ways in UNIT:
            for one in counted(ways):
                self.assertEqual(sum(sizes_often(one.heap)), covered_size(one.heap), one.heap)

    def test_on_a_line(self):
        for one in counted(1):
            pieces = pieces_of(one.heap)
            self.assertEqual(covered_length(one.heap), covered_size(one.heap), one.heap)
            self.assertEqual(lengths_often(one.heap), sizes_often(one.heap), one.heap)
            self.assertEqual(sum(high - low for low, high in pieces), covered_size(one.heap), one.heap)
            for low, high in pieces:
                self.assertEqual(size_within(one.heap, ((low, high),)), high - low, one.heap)
            for gap in gaps_of(one.heap):
                self.assertEqual(size_within(one.heap, (gap,)), 0, one.heap)
            for k in range(1, len(one.heap[1]) + 1):
                long = sum(high - low for low, high in pieces_at_least(one.heap, k))
                self.assertEqual(long, sum(sizes_often(one.heap)[k - 1:]), (one.heap, k))

    def test_in_a_plane(self):
        for one in counted(2):
            self.assertEqual(covered_area(one.heap), covered_size(one.heap), one.heap)
            self.assertEqual(areas_often(one.heap), sizes_often(one.heap), one.heap)
            for way in (0, 1):
                across = lengths_across(one.heap, way)
                area = sum((high - low) * length for low, high, length in across)
                self.assertEqual(area, covered_size(one.heap), (one.heap, way))

    def test_lengths_across_are_those_of_cuts(self):
        for one in counted(2, 20):
            for way in (0, 1):
                for low, high, length in lengths_across(one.heap, way):
                    for number in {low, (low + high) // 2, high - 1}:
                        self.assertEqual(covered_length(cut_at(one.heap, way, number)), length, (one.heap, way, number))
                    for number in (low - 1, high):
                        self.assertNotEqual(covered_length(cut_at(one.heap, way, number)), length, (one.heap, way))

    def test_by_cuts(self):
        for ways in (2, 3):
            for one in counted(ways, 20):
                for way in range(ways):
                    self.assertEqual(size_by_cuts(one.heap, way), covered_size(one.heap), (one.heap, way))

    def test_a_cut_covers_what_lies_in_the_box_of_that_number(self):
        for ways in (2, 3):
            for one in counted(ways, 10):
                if one.places == NEAR_PLACES and one.heap[1]:
                    span = span_of(one.heap)
                    for way in range(ways):
                        for number in range(span[way][0] - 1, span[way][1] + 1):
                            box = span[:way] + ((number, number + 1),) + span[way + 1:]
                            size = covered_size(cut_at(one.heap, way, number))
                            self.assertEqual(size, size_within(one.heap, box), (one.heap, way, number))

    def test_within_boxes(self):
        for ways in UNIT:
            for one in counted(ways):
                if one.heap[1]:
                    self.assertEqual(size_within(one.heap, span_of(one.heap)), covered_size(one.heap), one.heap)
                for number, box in enumerate(one.heap[1]):
                    self.assertEqual(size_within(one.heap, box), size_of(one.heap, number), one.heap)


class TestByOutlines(unittest.TestCase):
    def test_as_many_rounds_as_pieces_and_holes(self):
        for one in counted(2):
            rounds = outline_of(one.heap)
            self.assertEqual(len(rounds), len(piece_sizes(one.heap) + hole_sizes(one.heap)), one.heap)
            sizes = [turned_size(corners) for corners in rounds]
            self.assertEqual(sum(size > 0 for size in sizes), len(piece_sizes(one.heap)), one.heap)
            self.assertEqual(sum(size < 0 for size in sizes), len(hole_sizes(one.heap)), one.heap)

    def test_turned_rounds_come_to_what_is_covered(self):
        for one in counted(2):
            turned = sum(turned_size(corners) for corners in outline_of(one.heap))
            self.assertEqual(turned, covered_size(one.heap), one.heap)

    def test_pieces_come_to_what_is_covered(self):
        for one in counted(2):
            self.assertEqual(sum(piece_sizes(one.heap)), covered_size(one.heap), one.heap)

    def test_the_length_by_cuts(self):
        # At each number a cut's pieces have two ends each, and each end is a step of the outline.
        for one in counted(2):
            long = 0
            for way in (0, 1):
                ends = sorted(set(itertools.chain(*[box[way] for box in one.heap[1]])))
                for low, high in zip(ends, ends[1:]):
                    long += (high - low) * 2 * len(pieces_of(cut_at(one.heap, way, low)))
            self.assertEqual(outline_length(one.heap), long, one.heap)

    def test_heaps_that_cover_the_same_have_one_outline(self):
        for one in counted(2):
            fewer = (2, [one.heap[1][number] for number in fewest_same(one.heap)])
            for ask in [outline_of, outline_length, piece_sizes, hole_sizes]:
                self.assertEqual(ask(fewer), ask(one.heap), one.heap)


class TestByBoxesApart(unittest.TestCase):
    def test_the_told_parting_comes_to_what_is_covered(self):
        for ways in UNIT:
            for one in counted(ways):
                parting = parting_of(one.heap)
                self.assertIs(is_parting(one.heap, parting), True, one.heap)
                self.assertEqual(sum(map(box_size, parting)), covered_size(one.heap), one.heap)
                for box in parting:
                    self.assertEqual(size_within(one.heap, box), box_size(box), one.heap)

    def test_on_a_line_the_pieces(self):
        for one in counted(1):
            self.assertEqual(parting_of(one.heap), [(piece,) for piece in pieces_of(one.heap)], one.heap)
            for k in range(1, 4):
                alone = [(piece,) for piece in pieces_at_least(one.heap, k)]
                same = sum(map(box_size, alone)) == covered_size(one.heap)
                self.assertIs(is_parting(one.heap, alone), same, (one.heap, k))

    def test_the_parting_of_a_cut(self):
        for ways in (2, 3):
            for one in counted(ways, 20):
                parting = parting_of(one.heap)
                for number in {end for box in one.heap[1] for end in (box[0][0] - 1, box[0][0], box[0][1])}:
                    there = [box[1:] for box in parting if box[0][0] <= number < box[0][1]]
                    self.assertEqual(parting_of(cut_at(one.heap, 0, number)), there, (one.heap, number))

    def test_without_and_both_are_a_parting_of_the_first(self):
        for ways in UNIT:
            heaps = list(counted(ways, 20))
            for one, other in zip(heaps, heaps[9:] + heaps[:9]):
                without_it = covered_without(one.heap, other.heap)
                both = covered_both(one.heap, other.heap)
                self.assertIs(is_parting(one.heap, without_it + both), True, (one.heap, other.heap))
                self.assertEqual(both, covered_both(other.heap, one.heap))
                same = not without_it and not covered_without(other.heap, one.heap)
                self.assertIs(covers_same(one.heap, other.heap), same, (one.heap, other.heap))

    def test_without_one_box_what_only_it_holds(self):
        for ways in UNIT:
            for one in counted(ways, 20):
                for number, size in enumerate(own_sizes(one.heap)):
                    lost = covered_without(one.heap, without(one.heap, number))
                    self.assertEqual(sum(map(box_size, lost)), size, (one.heap, number))

    def test_the_fewest_cover_the_same(self):
        for ways in UNIT:
            for one in counted(ways):
                if len(one.heap[1]) <= 10:
                    fewer = (ways, [one.heap[1][number] for number in fewest_same(one.heap)])
                    self.assertIs(covers_same(one.heap, fewer), True, one.heap)
                for number, size in enumerate(own_sizes(one.heap)):
                    self.assertIs(covers_same(one.heap, without(one.heap, number)), size == 0, one.heap)

    def test_a_box_within_a_heap(self):
        for ways in UNIT:
            for one in counted(ways, 20):
                box = drawn_apart(((-1, 2), (-2, 1), (0, 3))[:ways], one.places)
                both = covered_both(one.heap, (ways, [box]))
                self.assertEqual(sum(map(box_size, both)), size_within(one.heap, box), one.heap)


class TestHousesAndHeaps(unittest.TestCase):
    def test_what_lies_under_a_skyline_is_what_the_boxes_cover(self):
        for houses in towns():
            line = skyline_of(houses)
            heap = boxes_of_houses(houses)
            self.assertEqual(area_under(line), covered_area(heap), houses)
            self.assertEqual(lengths_across(heap, 0), houses_of(line), houses)

    def test_the_fewest_and_those_side_by_side_cover_the_same(self):
        for houses in towns():
            line = skyline_of(houses)
            for others in [fewest_houses(line), houses_of(line)]:
                self.assertEqual(skyline_of(others), line, houses)
                if len(others) <= 10:
                    self.assertIs(covers_same(boxes_of_houses(houses), boxes_of_houses(others)), True, houses)
            self.assertEqual(needless(boxes_of_houses(fewest_houses(line)[:10])), [], houses)

    def test_a_skyline_has_the_heights_of_its_houses(self):
        for houses in towns():
            line = skyline_of(houses)
            self.assertTrue(is_skyline(line))
            for number, height in line:
                self.assertEqual(height_at(houses, number), height, houses)
                self.assertNotEqual(height_at(houses, number - 1), height, houses)

    def test_higher_and_lower_of_two(self):
        every = list(towns())
        for houses, others in zip(every, every[9:] + every[:9]):
            lines = [skyline_of(houses), skyline_of(others)]
            higher = higher_of(*lines)
            lower = lower_of(*lines)
            self.assertEqual(higher, skyline_of(houses + others))
            self.assertEqual(area_under(higher) + area_under(lower), area_under(lines[0]) + area_under(lines[1]))
            both = covered_both(boxes_of_houses(houses), boxes_of_houses(others))
            self.assertEqual(area_under(lower), sum(map(box_size, both)))

    def test_far_and_high(self):
        houses = [(-FAR, FAR, FAR), (0, 1, 2 * FAR)]
        self.assertEqual(area_under(skyline_of(houses)), covered_area(boxes_of_houses(houses)))


class TestTheWhole(unittest.TestCase):
    """Over the whole program: each way to reckon it comes to what counting spot by spot comes to."""

    def sizes_told(self, heap):
        paper = paper_of(heap)
        sizes = {
            "size": covered_size(heap), "often": sum(sizes_often(heap)), "sets": by_turns(sums_of_sets(heap)),
            "parting": sum(map(box_size, parting_of(heap))), "paper": paper_says(heap, paper)[0],
            "rows": sum(box_size(box) for box, numbers in paper), "kept": kept_of(heap).size_now(),
            "desk": int(desk_of(heap).answer("size")), "read": covered_size(read_heap(heap_text(heap))),
            "same": sum(map(box_size, covered_both(heap, heap))),
            "alone": sum(map(box_size, covered_without(heap, (heap[0], [])))),
        }
        for way in range(heap[0] if heap[0] > 1 else 0):
            sizes["cuts", way] = size_by_cuts(heap, way)
        if heap[0] == 1:
            sizes["length"] = covered_length(heap)
            sizes["lengths"] = sum(lengths_often(heap))
            sizes["pieces"] = sum(high - low for low, high in pieces_of(heap))
        if heap[0] == 2:
            sizes["area"] = covered_area(heap)
            sizes["areas"] = sum(areas_often(heap))
            sizes["rounds"] = sum(map(turned_size, outline_of(heap)))
            sizes["pieces"] = sum(piece_sizes(heap))
            for way in (0, 1):
                sizes["across", way] = sum((high - low) * length for low, high, length in lengths_across(heap, way))
        return sizes

    def test_as_many_spots_are_covered(self):
        for ways in UNIT:
            for one in counted(ways, 40):
                sizes = self.sizes_told(one.heap)
                self.assertEqual(sizes, dict.fromkeys(sizes, one.covered()), one.heap)

    def test_just_so_often(self):
        for ways in UNIT:
            for one in counted(ways, 40):
                often = [sizes_often(one.heap), paper_says(one.heap, paper_of(one.heap))[1]]
                often += [ask(one.heap) for ask in {1: [lengths_often], 2: [areas_often], 3: []}[ways]]
                answer = desk_of(one.heap).answer("often")
                often.append([] if answer == "-" else [int(word) for word in answer.split(" ")])
                self.assertEqual(often, [one.often()] * len(often), one.heap)

    def test_the_very_spots(self):
        for ways in UNIT:
            for one in counted(ways, 15):
                if one.places != NEAR_PLACES:
                    continue
                paper = paper_of(one.heap)
                parting = parting_of(one.heap)
                for spot in spots(ways, PLACES_LOW - 1, PLACES_HIGH + 1):
                    held = one.holders.get(spot, [])
                    self.assertEqual(boxes_at(one.heap, spot), held)
                    rows = [numbers for box, numbers in paper if holds_plainly(box, spot)]
                    self.assertEqual(rows, [held] if held else [])
                    self.assertEqual(sum(holds_plainly(box, spot) for box in parting), 1 if held else 0)

    def test_a_paper_is_a_parting(self):
        for ways in UNIT:
            for one in counted(ways, 30):
                paper = paper_of(one.heap)
                self.assertIs(is_parting(one.heap, [box for box, numbers in paper]), True, one.heap)
                for box, numbers in paper:
                    self.assertEqual(boxes_at(one.heap, tuple(low for low, high in box)), numbers, one.heap)
                    self.assertEqual(boxes_at(one.heap, tuple(high - 1 for low, high in box)), numbers, one.heap)

    def test_a_kept_tells_as_of_its_boxes_handed_in_anew(self):
        for ways in UNIT:
            for one in counted(ways, 30):
                kept = kept_of(one.heap)
                self.assertEqual(kept.heap_now(), one.heap)
                self.assertEqual(kept.names_now(), list(LETTERS[:len(one.heap[1])]))
                self.assertEqual(kept.most_now(), most_often(one.heap))
                for spot in list(one.holders)[:10]:
                    there = drawn_apart(spot, one.places)
                    self.assertEqual(kept.often_at(there), how_often(one.heap, there))
                for number, size in enumerate(own_sizes(one.heap)):
                    self.assertEqual(kept.take_box(LETTERS[number]), -size, one.heap)
                    self.assertEqual(kept.undo(), size, one.heap)

    def test_texts_and_back(self):
        for ways in UNIT:
            for one in counted(ways, 30):
                self.assertEqual(read_heap(heap_text(one.heap)), one.heap)
                most = most_often(one.heap)
                if most:
                    self.assertEqual(read_spot(spot_text(most[1])), most[1])
                    answer = desk_of(one.heap).answer("most")
                    self.assertEqual(answer, f"{most[0]} {spot_text(most[1])}")

    def test_a_parting_of_the_desk_may_be_read(self):
        for ways in UNIT:
            for one in counted(ways, 20):
                words = desk_of(one.heap).answer("parting")
                boxes = [] if words == "-" else [read_heap(f"{ways} {word}")[1][0] for word in words.split(" ")]
                self.assertIs(is_parting(one.heap, boxes), True, one.heap)

    def test_a_skyline_leads_to_houses_and_back(self):
        desk = Desk()
        for houses in towns():
            line = skyline_of(houses)
            self.assertEqual(read_houses(houses_text(houses)), houses)
            self.assertEqual(read_skyline(skyline_text(line)), line)
            sky = desk.answer("sky " + houses_text(houses))
            self.assertEqual(sky, skyline_text(line))
            fewest = desk.answer("fewest " + sky)
            self.assertEqual(fewest, houses_text(fewest_houses(line)))
            self.assertEqual(desk.answer("sky " + fewest), sky)
            self.assertEqual(desk.answer("sky " + houses_text(houses_of(line))), sky)


class TestWhose(unittest.TestCase):
    def test_own_sizes_come_to_what_just_one_holds(self):
        for ways in UNIT:
            for one in counted(ways):
                self.assertEqual(sum(own_sizes(one.heap)), sum(sizes_often(one.heap)[:1]), one.heap)

    def test_own_sizes_are_what_is_lost_without_a_box(self):
        for ways in UNIT:
            for one in counted(ways, 20):
                whole = covered_size(one.heap)
                own = own_sizes(one.heap)
                lost = [whole - covered_size(without(one.heap, number)) for number in range(len(own))]
                self.assertEqual(own, lost, one.heap)
                wanted = [number for number, size in enumerate(lost) if size == 0]
                self.assertEqual(needless(one.heap), wanted, one.heap)

    def test_the_most_often(self):
        for ways in UNIT:
            for one in counted(ways):
                if one.heap[1]:
                    times, spot = most_often(one.heap)
                    self.assertEqual(times, len(sizes_often(one.heap)), one.heap)
                    self.assertEqual(times, how_often(one.heap, spot), one.heap)
                    self.assertEqual(times, len(boxes_at(one.heap, spot)), one.heap)

    def test_the_fewest_cover_the_same(self):
        for ways in UNIT:
            for one in counted(ways):
                if len(one.heap[1]) <= 10:
                    chosen = fewest_same(one.heap)
                    self.assertEqual(chosen, sorted(set(chosen)), one.heap)
                    fewer = (ways, [one.heap[1][number] for number in chosen])
                    self.assertEqual(covered_size(fewer), covered_size(one.heap), one.heap)
                    self.assertEqual(needless(fewer), [], one.heap)


if __name__ == "__main__":
    unittest.main()
