import itertools
import unittest

from boxcover.boxes import how_often
from boxcover.errors import NoHeap, NoNumber, NoWays
from boxcover.line import covered_length, gaps_of, lengths_often, pieces_at_least, pieces_of
from tests.helper import FAR, LONG, UNIT, all_stretches, no_heaps, refused, things, told

ASKS = [pieces_of, gaps_of, covered_length, lengths_often]


def line(*stretches):
    return (1, [(stretch,) for stretch in stretches])


def runs(numbers):
    """The fewest stretches of rising numbers, found by walking them one by one."""
    found = []
    for number in numbers:
        if found and found[-1][1] == number:
            found[-1] = (found[-1][0], number + 1)
        else:
            found.append((number, number + 1))
    return found


def small_lines():
    for many in range(4):
        for stretches in itertools.product(all_stretches(0, 4), repeat=many):
            yield line(*stretches)
    for stretches in itertools.combinations(all_stretches(0, 5), 4):
        yield line(*stretches)


def all_told(test, heap):
    return [told(test, ask, heap) for ask in ASKS]


class TestPieces(unittest.TestCase):
    def test_of_no_boxes(self):
        self.assertEqual(all_told(self, (1, [])), [[], [], 0, []])
        for k in [1, 2, LONG]:
            self.assertEqual(told(self, pieces_at_least, (1, []), k), [])

    def test_of_one_box(self):
        self.assertEqual(all_told(self, line((3, 7))), [[(3, 7)], [], 4, [4]])

    def test_apart(self):
        wanted = [[(0, 2), (4, 5), (8, 9)], [(2, 4), (5, 8)], 4, [4]]
        self.assertEqual(all_told(self, line((8, 9), (0, 2), (4, 5))), wanted)

    def test_a_gap_of_one_number(self):
        self.assertEqual(all_told(self, line((0, 1), (2, 3))), [[(0, 1), (2, 3)], [(1, 2)], 2, [2]])

    def test_touching_are_one_piece(self):
        self.assertEqual(all_told(self, line((0, 2), (2, 5))), [[(0, 5)], [], 5, [5]])
        self.assertEqual(all_told(self, line((4, 5), (0, 2), (2, 4))), [[(0, 5)], [], 5, [5]])

    def test_over_one_another(self):
        self.assertEqual(all_told(self, line((0, 5), (3, 9))), [[(0, 9)], [], 9, [7, 2]])

    def test_within_one_another(self):
        self.assertEqual(all_told(self, line((2, 3), (0, 9), (1, 4))), [[(0, 9)], [], 9, [6, 2, 1]])

    def test_alike(self):
        self.assertEqual(all_told(self, line((-3, 1), (-3, 1))), [[(-3, 1)], [], 4, [0, 4]])
        self.assertEqual(all_told(self, line(*[(0, 7)] * 20)), [[(0, 7)], [], 7, [0] * 19 + [7]])

    def test_counts_that_no_number_has_are_told_as_0(self):
        self.assertEqual(told(self, lengths_often, line((0, 3), (0, 3), (0, 3), (5, 9))), [4, 0, 3])

    def test_twenty_boxes(self):
        apart = [(3 * place, 3 * place + 2) for place in range(20)]
        gaps = [(3 * place + 2, 3 * place + 3) for place in range(19)]
        self.assertEqual(all_told(self, line(*apart[::-1])), [apart, gaps, 40, [40]])
        stairs = [(0, place + 1) for place in range(20)]
        self.assertEqual(all_told(self, line(*stairs)), [[(0, 20)], [], 20, [1] * 20])

    def test_far_out(self):
        self.assertEqual(all_told(self, line((-FAR, FAR))), [[(-FAR, FAR)], [], 2 * FAR, [2 * FAR]])
        ends = [(-FAR, 1 - FAR), (FAR - 1, FAR)]
        self.assertEqual(all_told(self, line(*ends)), [ends, [(1 - FAR, FAR - 1)], 2, [2]])
        self.assertEqual(
            told(self, lengths_often, line((-FAR, FAR), (0, FAR), (FAR - 1, FAR))), [FAR, FAR - 1, 1])


class TestPiecesAtLeast(unittest.TestCase):
    HEAP = line((0, 10), (2, 4), (4, 6), (3, 5), (12, 14), (12, 14))

    def test_each_k(self):
        wanted = [[(0, 10), (12, 14)], [(2, 6), (12, 14)], [(3, 5)], [], [], []]
        for k in range(1, 7):
            self.assertEqual(told(self, pieces_at_least, self.HEAP, k), wanted[k - 1])

    def test_as_many_as_there_are_boxes_and_one_more(self):
        heap = line(*[(-place, place + 1) for place in range(20)])
        self.assertEqual(told(self, pieces_at_least, heap, 1), [(-19, 20)])
        self.assertEqual(told(self, pieces_at_least, heap, 19), [(-1, 2)])
        self.assertEqual(told(self, pieces_at_least, heap, 20), [(0, 1)])
        self.assertEqual(told(self, pieces_at_least, heap, 21), [])

    def test_of_forty_figures(self):
        self.assertEqual(told(self, pieces_at_least, self.HEAP, LONG), [])
        self.assertEqual(told(self, pieces_at_least, self.HEAP, 10 ** 40 - 1), [])

    def test_what_is_no_k(self):
        wrong = [thing for thing in things() if type(thing) is not int or thing < 1]
        for k in wrong + [0, -1, -LONG, True, False, "1", (1,), [1]]:
            refused(self, NoNumber, pieces_at_least, self.HEAP, k)
            refused(self, NoNumber, pieces_at_least, (1, []), k)


class TestAgainstCounting(unittest.TestCase):
    def test_every_small_line(self):
        for heap in small_lines():
            often = {number: how_often(heap, (number,)) for number in range(-1, 7)}
            most = max(often.values())
            covered = [number for number in often if often[number] > 0]
            pieces = runs(covered)
            inner = [number for number in often if covered and covered[0] < number < covered[-1]]
            self.assertEqual(pieces_of(heap), pieces, heap)
            self.assertEqual(gaps_of(heap), runs([number for number in inner if often[number] == 0]), heap)
            self.assertEqual(covered_length(heap), len(covered), heap)
            counts = [list(often.values()).count(times) for times in range(1, most + 1)]
            self.assertEqual(lengths_often(heap), counts, heap)
            for k in range(1, len(heap[1]) + 2):
                wanted = runs([number for number in often if often[number] >= k])
                self.assertEqual(pieces_at_least(heap, k), wanted, (heap, k))


class TestRefusals(unittest.TestCase):
    def test_no_heap_goes_first(self):
        for thing in no_heaps():
            for ask in ASKS:
                refused(self, NoHeap, ask, thing)
            refused(self, NoHeap, pieces_at_least, thing, 1)
            refused(self, NoHeap, pieces_at_least, thing, 0)

    def test_no_ways_goes_ahead_of_no_number(self):
        for heap in [(2, []), (3, []), (2, [UNIT[2]]), (3, [UNIT[3]] * 6)]:
            for ask in ASKS:
                refused(self, NoWays, ask, heap)
            for k in [1, 0, -1, LONG, True, None, "1", [], (), {}]:
                refused(self, NoWays, pieces_at_least, heap, k)

    def test_one_box_too_many_is_no_heap(self):
        for ask in ASKS:
            refused(self, NoHeap, ask, line(*[(0, 1)] * 21))
            refused(self, NoHeap, ask, (2, [UNIT[2]] * 11))


class TestNothingIsKept(unittest.TestCase):
    def test_a_heap_that_changes_between_two_calls(self):
        heap = line((0, 2), (5, 6))
        first = all_told(self, heap) + [pieces_at_least(heap, 1)]
        heap[1].append(((1, 9),))
        self.assertEqual(first, [[(0, 2), (5, 6)], [(2, 5)], 3, [3], [(0, 2), (5, 6)]])
        self.assertEqual(all_told(self, heap), [[(0, 9)], [], 9, [7, 2]])
        self.assertEqual(pieces_at_least(heap, 2), [(1, 2), (5, 6)])
        heap[1].clear()
        self.assertEqual(all_told(self, heap), [[], [], 0, []])


if __name__ == "__main__":
    unittest.main()
