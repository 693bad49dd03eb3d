import itertools
import random
import unittest

from boxcover.errors import NoHeap, NoWays
from boxcover.outlines import hole_sizes, outline_length, outline_of, piece_sizes
from tests.helper import (
    FAR, NEAR_PLACES, PLACES_HIGH, PLACES_LOW, UNIT, Counted, counted, drawn_apart, no_heaps, refused, ring, squares,
    told,
)

ASKS = [outline_of, outline_length, piece_sizes, hole_sizes]
BESIDE = [(1, 0), (0, 1), (-1, 0), (0, -1)]
AROUND = [step for step in itertools.product((-1, 0, 1), repeat=2) if step != (0, 0)]


def all_told(test, heap):
    return [told(test, ask, heap) for ask in ASKS]


def square_patterns():
    """Every pattern of squares three by three, and some of ten squares four by four."""
    grid = list(itertools.product(range(3), repeat=2))
    for many in range(len(grid) + 1):
        for places in itertools.combinations(grid, many):
            yield (2, squares(places))
    chance = random.Random(18)
    wider = list(itertools.product(range(-2, 2), repeat=2))
    for _ in range(200):
        yield (2, squares(chance.sample(wider, chance.randint(6, 10))))


def unit_steps(corners):
    """The steps of 1 of a round: (corner, heading) each."""
    steps = []
    for here, there in zip(corners, corners[1:] + corners[:1]):
        long = abs(there[0] - here[0]) + abs(there[1] - here[1])
        heading = ((there[0] - here[0]) // long, (there[1] - here[1]) // long)
        steps += [((here[0] + heading[0] * go, here[1] + heading[1] * go), heading) for go in range(long)]
    return steps


def square_beside(corner, heading, left):
    """The square to the left or to the right of a step of 1."""
    beside = {(1, 0): ((0, 0), (0, -1)), (0, 1): ((-1, 0), (0, 0)),
              (-1, 0): ((-1, -1), (-1, 0)), (0, -1): ((0, -1), (-1, -1))}
    step = beside[heading][0 if left else 1]
    return (corner[0] + step[0], corner[1] + step[1])


def edges_plainly(covered):
    """How many sides of covered squares have no covered square behind them."""
    return sum((spot[0] + step[0], spot[1] + step[1]) not in covered for spot in covered for step in BESIDE)


def groups_plainly(spots, steps):
    """What hangs together, spot by spot: all that can be reached from one."""
    left = set(spots)
    groups = []
    while left:
        group = {left.pop()}
        border = set(group)
        while border:
            border = {(spot[0] + step[0], spot[1] + step[1]) for spot in border for step in steps} & left
            left -= border
            group |= border
        groups.append(group)
    return groups


def holes_plainly(covered):
    near = range(PLACES_LOW - 1, PLACES_HIGH + 1)
    bare = [spot for spot in itertools.product(near, near) if spot not in covered]
    return [group for group in groups_plainly(bare, AROUND) if (PLACES_LOW - 1, PLACES_LOW - 1) not in group]


def meets_across(covered, corner):
    first, second = corner
    around = [(first, second) in covered, (first - 1, second) in covered,
              (first - 1, second - 1) in covered, (first, second - 1) in covered]
    return around in ([True, False, True, False], [False, True, False, True])


class TestEachShape(unittest.TestCase):
    def test_of_no_boxes(self):
        self.assertEqual(all_told(self, (2, [])), [[], 0, [], []])

    def test_of_one_box(self):
        self.assertEqual(all_told(self, (2, [((1, 3), (-2, 3))])), [
            [[(1, -2), (3, -2), (3, 3), (1, 3)]], 14, [10], []])

    def test_alike(self):
        for many in range(1, 11):
            self.assertEqual(all_told(self, (2, [((0, 3), (5, 7))] * many)), [
                [[(0, 5), (3, 5), (3, 7), (0, 7)]], 10, [6], []])

    def test_beside_one_another(self):
        for boxes in [[((0, 2), (0, 3)), ((2, 5), (0, 3))], [((0, 5), (0, 1)), ((0, 5), (1, 3))]]:
            self.assertEqual(all_told(self, (2, boxes)), [[[(0, 0), (5, 0), (5, 3), (0, 3)]], 16, [15], []])
        self.assertEqual(all_told(self, (2, [((0, 2), (0, 3)), ((2, 5), (1, 3))])), [
            [[(0, 0), (2, 0), (2, 1), (5, 1), (5, 3), (0, 3)]], 16, [12], []])

    def test_within_one_another(self):
        self.assertEqual(all_told(self, (2, [((2, 3), (2, 3)), ((0, 9), (0, 9)), ((1, 4), (1, 4))])), [
            [[(0, 0), (9, 0), (9, 9), (0, 9)]], 36, [81], []])

    def test_apart(self):
        self.assertEqual(all_told(self, (2, [((5, 6), (0, 2)), ((0, 2), (5, 6))])), [
            [[(0, 5), (2, 5), (2, 6), (0, 6)], [(5, 0), (6, 0), (6, 2), (5, 2)]], 12, [2, 2], []])

    def test_a_ring(self):
        self.assertEqual(all_told(self, (2, ring(0, 3))), [
            [[(0, 0), (3, 0), (3, 3), (0, 3)], [(1, 1), (1, 2), (2, 2), (2, 1)]], 16, [8], [1]])

    def test_a_ring_within_a_ring(self):
        rounds = [[(0, 0), (7, 0), (7, 7), (0, 7)], [(1, 1), (1, 6), (6, 6), (6, 1)],
                  [(2, 2), (5, 2), (5, 5), (2, 5)], [(3, 3), (3, 4), (4, 4), (4, 3)]]
        self.assertEqual(all_told(self, (2, ring(0, 7) + ring(2, 5))), [rounds, 64, [8, 24], [1, 16]])

    def test_squares_that_meet_across(self):
        self.assertEqual(all_told(self, (2, squares([(0, 0), (1, 1)]))), [
            [[(0, 0), (1, 0), (1, 1), (0, 1)], [(1, 1), (2, 1), (2, 2), (1, 2)]], 8, [1, 1], []])
        self.assertEqual(all_told(self, (2, squares([(0, 1), (1, 0)]))), [
            [[(0, 1), (1, 1), (1, 2), (0, 2)], [(1, 0), (2, 0), (2, 1), (1, 1)]], 8, [1, 1], []])

    def test_a_hole_that_meets_the_outside_is_none(self):
        # The round comes by the corner (1, 1) twice.
        places = [place for place in itertools.product(range(3), repeat=2) if place not in [(0, 0), (1, 1)]]
        self.assertEqual(all_told(self, (2, squares(places))), [
            [[(0, 1), (1, 1), (1, 2), (2, 2), (2, 1), (1, 1), (1, 0), (3, 0), (3, 3), (0, 3)]], 16, [7], []])

    def test_holes_that_meet_at_a_corner_are_one(self):
        rows = [((-1, 3), (-1, 0)), ((-1, 3), (2, 3)), ((-1, 0), (0, 2)), ((2, 3), (0, 2)), ((1, 2), (0, 1)),
                ((0, 1), (1, 2))]
        self.assertEqual(all_told(self, (2, rows)), [
            [[(-1, -1), (3, -1), (3, 3), (-1, 3)],
             [(0, 0), (0, 1), (1, 1), (1, 2), (2, 2), (2, 1), (1, 1), (1, 0)]], 24, [14], [2]])

    def test_as_many_boxes_as_may_be(self):
        lattice = [place for place in itertools.product(range(4), range(5)) if sum(place) % 2 == 0]
        rounds = [[(x, y), (x + 1, y), (x + 1, y + 1), (x, y + 1)] for x, y in sorted(lattice)]
        self.assertEqual(all_told(self, (2, squares(lattice))), [rounds, 40, [1] * 10, []])
        bars = [((2 * place, 2 * place + 1), (0, 9)) for place in range(5)]
        bars += [((0, 9), (2 * place, 2 * place + 1)) for place in range(5)]
        outline, length, pieces, holes = all_told(self, (2, bars))
        self.assertEqual((len(outline), length, pieces, holes), (17, 36 + 64, [65], [1] * 16))

    def test_far_out(self):
        ends = [((-FAR, 1 - FAR), (-FAR, FAR)), ((FAR - 1, FAR), (-FAR, FAR)),
                ((-FAR, FAR), (-FAR, 1 - FAR)), ((-FAR, FAR), (FAR - 1, FAR))]
        inner = (2 * FAR - 2) ** 2
        self.assertEqual(all_told(self, (2, ends)), [
            [[(-FAR, -FAR), (FAR, -FAR), (FAR, FAR), (-FAR, FAR)],
             [(1 - FAR, 1 - FAR), (1 - FAR, FAR - 1), (FAR - 1, FAR - 1), (FAR - 1, 1 - FAR)]],
            16 * FAR - 8, [4 * FAR * FAR - inner], [inner]])

    def test_sizes_rise(self):
        boxes = [((0, 3), (0, 3)), ((10, 11), (0, 1)), ((20, 22), (0, 1)), ((30, 31), (0, 1))]
        self.assertEqual(told(self, piece_sizes, (2, boxes)), [1, 1, 2, 9])
        grid = [((0, 20), (0, 1)), ((0, 20), (4, 5)), ((0, 1), (0, 5)), ((7, 8), (0, 5)), ((9, 10), (0, 5)),
                ((13, 14), (0, 5)), ((19, 20), (0, 5))]
        self.assertEqual(told(self, hole_sizes, (2, grid)), [3, 9, 15, 18])


class TestRounds(unittest.TestCase):
    def check_rounds(self, covered, outline):
        walked = []
        for corners in outline:
            self.assertEqual(corners[0], min(corners))
            steps = unit_steps(corners)
            # Ways by turns: each corner is one at which one turns.
            ways = [here[0] != there[0] for here, there in zip(corners, corners[1:] + corners[:1])]
            self.assertEqual(ways, [ways[0] if place % 2 == 0 else not ways[0] for place in range(len(ways))])
            self.assertEqual(len(ways) % 2, 0)
            for corner, heading in steps:
                self.assertIn(square_beside(corner, heading, True), covered)
                self.assertNotIn(square_beside(corner, heading, False), covered)
            for ahead, behind in zip(steps[-1:] + steps[:-1], steps):
                if meets_across(covered, behind[0]):
                    self.assertEqual(behind[1], (-ahead[1][1], ahead[1][0]))
            walked += steps
        self.assertEqual(outline, sorted(outline))
        self.assertEqual(len(walked), len(set(walked)))
        self.assertEqual(len(walked), edges_plainly(covered))

    def check_kinds(self, outline):
        self.assertIs(type(outline), list)
        for corners in outline:
            self.assertIs(type(corners), list)
            for corner in corners:
                self.assertEqual((type(corner), len(corner)), (tuple, 2))
                self.assertEqual([type(number) for number in corner], [int, int])

    def test_all_patterns_of_squares(self):
        for heap in square_patterns():
            covered = {(box[0][0], box[1][0]) for box in heap[1]}
            outline = outline_of(heap)
            self.check_rounds(covered, outline)
            self.assertEqual(outline_length(heap), edges_plainly(covered))

    def test_near_and_far(self):
        for one in counted(2):
            near = told(self, outline_of, one.near)
            self.check_rounds(one.holders, near)
            self.check_kinds(near)
            wanted = [[drawn_apart(corner, one.places) for corner in corners] for corners in near]
            self.assertEqual(told(self, outline_of, one.heap), wanted, one.heap)

    def test_lengths(self):
        for one in counted(2):
            long = 0
            for spot in one.holders:
                for step in BESIDE:
                    if (spot[0] + step[0], spot[1] + step[1]) not in one.holders:
                        long += one.width(spot[1] if step[1] == 0 else spot[0])
            self.assertEqual(told(self, outline_length, one.heap), long, one.heap)

    def test_the_order_of_boxes_changes_nothing(self):
        for one in counted(2, 20):
            turned = (2, one.heap[1][::-1])
            self.assertEqual([ask(turned) for ask in ASKS], [ask(one.heap) for ask in ASKS])


class TestPiecesAndHoles(unittest.TestCase):
    def test_all_patterns_of_squares(self):
        for heap in square_patterns():
            one = Counted(heap, NEAR_PLACES)
            self.assertEqual(piece_sizes(heap), sorted(map(len, groups_plainly(one.holders, BESIDE))), heap)
            self.assertEqual(hole_sizes(heap), sorted(map(len, holes_plainly(one.holders))), heap)

    def test_against_counting(self):
        for one in counted(2):
            pieces = groups_plainly(one.holders, BESIDE)
            holes = holes_plainly(one.holders)
            wanted = [sorted(sum(map(one.weight, group)) for group in groups) for groups in (pieces, holes)]
            self.assertEqual(told(self, piece_sizes, one.heap), wanted[0], one.heap)
            self.assertEqual(told(self, hole_sizes, one.heap), wanted[1], one.heap)


class TestRefusals(unittest.TestCase):
    def test_no_heap(self):
        for ask, thing in itertools.product(ASKS, no_heaps()):
            refused(self, NoHeap, ask, thing)

    def test_no_ways(self):
        for ask in ASKS:
            for heap in [(1, []), (1, [UNIT[1]]), (1, [UNIT[1]] * 20), (3, []), (3, [UNIT[3]]), (3, [UNIT[3]] * 6)]:
                refused(self, NoWays, ask, heap)

    def test_no_heap_goes_ahead_of_no_ways(self):
        for ask in ASKS:
            for heap in [(1, [UNIT[2]]), (3, [UNIT[2]]), (1, [UNIT[1]] * 21), (3, [UNIT[3]] * 7), (1, None), (3, ())]:
                refused(self, NoHeap, ask, heap)


class TestNothingIsKept(unittest.TestCase):
    def test_a_heap_that_changes_between_two_calls(self):
        heap = (2, ring(0, 3))
        first = all_told(self, heap)
        heap[1].append(((1, 2), (1, 2)))
        self.assertEqual(first[1:], [16, [8], [1]])
        self.assertEqual(all_told(self, heap), [[[(0, 0), (3, 0), (3, 3), (0, 3)]], 12, [9], []])
        heap[1].clear()
        self.assertEqual(all_told(self, heap), [[], 0, [], []])


if __name__ == "__main__":
    unittest.main()
