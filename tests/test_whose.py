import itertools
import unittest

from boxcover.errors import NoHeap, TooMany
from boxcover.whose import fewest_same, most_often, needless, own_sizes
from tests.helper import FAR, LIMITS, UNIT, counted, drawn_apart, no_heaps, refused, told

ASKS = [own_sizes, most_often, needless, fewest_same]
SPACE = (3, [((0, 2), (0, 3), (0, 5)), ((1, 4), (2, 9), (-3, 1)), ((2, 3), (3, 4), (5, 6))])


def all_told(test, heap):
    return [told(test, ask, heap) for ask in ASKS]


def line(*stretches):
    return (1, [(stretch,) for stretch in stretches])


def fewest_plainly(one):
    numbers = range(len(one.near[1]))
    for many in range(len(numbers) + 1):
        for chosen in itertools.combinations(numbers, many):
            if all(set(chosen) & set(held) for held in one.holders.values()):
                return list(chosen)


class TestEachShape(unittest.TestCase):
    def test_of_no_boxes(self):
        for ways in UNIT:
            self.assertEqual(all_told(self, (ways, [])), [[], None, [], []])

    def test_of_one_box(self):
        self.assertEqual(all_told(self, line((3, 7))), [[4], (1, (3,)), [], [0]])
        self.assertEqual(all_told(self, (2, [((3, 7), (-2, 0))])), [[8], (1, (3, -2)), [], [0]])
        self.assertEqual(all_told(self, (3, [((3, 7), (-2, 0), (5, 6))])), [[8], (1, (3, -2, 5)), [], [0]])

    def test_alike(self):
        for ways, most in LIMITS.items():
            for many in range(2, most + 1):
                heap = (ways, [((-1, 2),) * ways] * many)
                self.assertEqual(told(self, own_sizes, heap), [0] * many)
                self.assertEqual(told(self, most_often, heap), (many, (-1,) * ways))
                self.assertEqual(told(self, needless, heap), list(range(many)))
                if many <= 10:
                    self.assertEqual(told(self, fewest_same, heap), [0])

    def test_apart_and_beside(self):
        for ways, most in LIMITS.items():
            for step in (1, 2):
                boxes = [((-step * place, 1 - step * place),) + UNIT[ways][1:] for place in range(min(most, 10))]
                wanted = [[1] * len(boxes), (1, boxes[-1][0][:1] + (0,) * (ways - 1)), [], list(range(len(boxes)))]
                self.assertEqual(all_told(self, (ways, boxes)), wanted)

    def test_within_one_another(self):
        heap = (2, [((2, 3), (2, 3)), ((0, 9), (0, 9)), ((1, 4), (1, 4))])
        self.assertEqual(all_told(self, heap), [[0, 72, 0], (3, (2, 2)), [0, 2], [1]])

    def test_over_one_another(self):
        self.assertEqual(all_told(self, line((0, 5), (3, 9), (4, 6))), [[3, 3, 0], (3, (4,)), [2], [0, 1]])
        self.assertEqual(all_told(self, SPACE), [[29, 83, 1], (2, (1, 2, 0)), [], [0, 1, 2]])

    def test_far_out(self):
        for ways in UNIT:
            whole = ((-FAR, FAR),) * ways
            last = ((FAR - 1, FAR),) * ways
            wanted = [[(2 * FAR) ** ways - 1, 0], (2, (FAR - 1,) * ways), [1], [0]]
            self.assertEqual(all_told(self, (ways, [whole, last])), wanted)

    def test_needed_by_none_alone_but_by_two_together(self):
        # The one in the middle is held by its neighbours together, by neither alone.
        self.assertEqual(all_told(self, line((0, 4), (2, 6), (4, 8))), [[2, 0, 2], (2, (2,)), [1], [0, 2]])

    def test_needless_each_but_not_all(self):
        self.assertEqual(all_told(self, line((0, 4), (0, 2), (2, 4))), [[0, 0, 0], (2, (0,)), [0, 1, 2], [0]])
        ring = (2, [((0, 2), (0, 1)), ((1, 2), (0, 2)), ((0, 2), (1, 2)), ((0, 1), (0, 2))])
        self.assertEqual(all_told(self, ring), [[0] * 4, (2, (0, 0)), [0, 1, 2, 3], [0, 2]])


class TestMostOften(unittest.TestCase):
    def test_the_first_of_several(self):
        self.assertEqual(told(self, most_often, line((5, 9), (6, 9), (0, 3), (1, 2))), (2, (1,)))
        self.assertEqual(told(self, most_often, (2, [((0, 5), (3, 9)), ((1, 2), (-9, -8))])), (1, (0, 3)))
        self.assertEqual(told(self, most_often, (2, [((1, 5), (3, 9)), ((1, 2), (-9, -8))])), (1, (1, -9)))
        for first in [((0, 1), (4, 5), (0, 1)), ((0, 1), (3, 5), (8, 9))]:
            heap = (3, [first, ((0, 1), (3, 4), (7, 8))])
            self.assertEqual(told(self, most_often, heap), (1, (0, 3, 7)))

    def test_a_later_one_held_more_often(self):
        heap = (2, [((0, 2), (0, 2)), ((0, 2), (0, 2)), ((5, 9), (0, 4)), ((6, 9), (1, 4)), ((7, 9), (2, 3))])
        self.assertEqual(told(self, most_often, heap), (3, (7, 2)))

    def test_the_kinds(self):
        for ways in UNIT:
            answer = most_often((ways, [UNIT[ways]]))
            self.assertEqual((type(answer), type(answer[1]), len(answer[1])), (tuple, tuple, ways))


class TestFewest(unittest.TestCase):
    def test_the_first_of_as_few(self):
        self.assertEqual(told(self, fewest_same, line((0, 2), (2, 4), (0, 2), (2, 4))), [0, 1])
        self.assertEqual(told(self, fewest_same, line((1, 2), (0, 2), (0, 3), (2, 3))), [2])
        self.assertEqual(told(self, fewest_same, line((0, 3), (2, 6), (1, 4), (3, 6), (0, 1))), [0, 1])

    def test_fewer_go_ahead_of_earlier_ones(self):
        self.assertEqual(told(self, fewest_same, line((0, 1), (1, 2), (2, 3), (0, 3))), [3])
        # Whoever takes the longest first needs three.
        heap = line((2, 10), (0, 6), (6, 12), (0, 3), (9, 12))
        self.assertEqual(told(self, fewest_same, heap), [1, 2])

    def test_of_ten_boxes(self):
        chain = line(*[(place, place + 2) for place in range(10)])
        self.assertEqual(told(self, fewest_same, chain), [0, 1, 3, 5, 7, 9])
        self.assertEqual(told(self, fewest_same, line(*[(place, place + 1) for place in range(10)])), list(range(10)))
        self.assertEqual(told(self, fewest_same, line(*[(0, place) for place in range(1, 11)])), [9])
        rows = [((0, 5), (place, place + 1)) for place in range(5)]
        cross = rows + [((place, place + 1), (0, 5)) for place in range(5)]
        self.assertEqual(told(self, fewest_same, (2, cross)), [0, 1, 2, 3, 4])
        self.assertEqual(told(self, fewest_same, (2, cross[5:] + cross[:4])), [0, 1, 2, 3, 4])

    def test_of_eleven_boxes_and_more(self):
        for many in range(11, 21):
            refused(self, TooMany, fewest_same, line(*[(0, 1)] * many))
            refused(self, TooMany, fewest_same, line(*[(place, place + 2) for place in range(many)]))


class TestAgainstCounting(unittest.TestCase):
    def test_own_sizes_and_needless(self):
        for ways in UNIT:
            for one in counted(ways):
                numbers = range(len(one.near[1]))
                wanted = [one.size_where(lambda spot, held: held == [number]) for number in numbers]
                self.assertEqual(told(self, own_sizes, one.heap), wanted, one.heap)
                alone = [held[0] for held in one.holders.values() if len(held) == 1]
                wanted = [number for number in numbers if number not in alone]
                self.assertEqual(told(self, needless, one.heap), wanted, one.heap)

    def test_most_often(self):
        for ways in UNIT:
            for one in counted(ways):
                times = max((len(held) for held in one.holders.values()), default=0)
                first = min((spot for spot, held in one.holders.items() if len(held) == times), default=None)
                wanted = (times, drawn_apart(first, one.places)) if times else None
                self.assertEqual(told(self, most_often, one.heap), wanted, one.heap)

    def test_fewest(self):
        for ways in UNIT:
            for one in counted(ways):
                if len(one.near[1]) > 10:
                    refused(self, TooMany, fewest_same, one.heap)
                else:
                    self.assertEqual(told(self, fewest_same, one.heap), fewest_plainly(one), one.heap)


class TestRefusals(unittest.TestCase):
    def test_no_heap(self):
        for ask, thing in itertools.product(ASKS, no_heaps()):
            refused(self, NoHeap, ask, thing)

    def test_no_heap_goes_ahead_of_too_many(self):
        for boxes in [[UNIT[1]] * 21, [UNIT[1]] * 11 + [None], [UNIT[2]] * 11, [(0, 1)] * 12, [((1, 0),)] * 11]:
            refused(self, NoHeap, fewest_same, (1, boxes))
        refused(self, NoHeap, fewest_same, (2, [UNIT[2]] * 11))
        refused(self, NoHeap, fewest_same, (3, [UNIT[3]] * 11))

    def test_the_others_are_told_of_twenty_boxes(self):
        heap = line(*[(place, place + 2) for place in range(20)])
        self.assertEqual(told(self, own_sizes, heap), [1] + [0] * 18 + [1])
        self.assertEqual(told(self, most_often, heap), (2, (1,)))
        self.assertEqual(told(self, needless, heap), list(range(1, 19)))


class TestNothingIsKept(unittest.TestCase):
    def test_a_heap_that_changes_between_two_calls(self):
        heap = line((0, 2))
        first = all_told(self, heap)
        heap[1].append(((0, 9),))
        self.assertEqual(first, [[2], (1, (0,)), [], [0]])
        self.assertEqual(all_told(self, heap), [[0, 7], (2, (0,)), [0], [1]])
        heap[1].clear()
        self.assertEqual(all_told(self, heap), [[], None, [], []])


if __name__ == "__main__":
    unittest.main()
