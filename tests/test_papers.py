import itertools
import random
import unittest

from boxcover.errors import NoHeap
from boxcover.papers import paper_of, paper_says
from tests.helper import (
    FAR, LIMITS, LONG, NEAR_PLACES, PLACES_HIGH, PLACES_LOW, UNIT, Counted, changed_otherwise, counted, drawn_apart,
    holds_plainly, no_boxes, no_heaps, refused, ring, spots, things, told,
)

PLANE = (2, [((0, 4), (0, 4)), ((2, 6), (1, 3))])
SPACE = (3, [((0, 2), (0, 3), (0, 5)), ((1, 4), (2, 9), (-3, 1)), ((2, 3), (3, 4), (5, 6))])


def paper_plainly(boxes, numbers):
    """The told paper by its own words: boxes whose ways are not yet cut, by their numbers."""
    if not boxes[0]:
        return [((), sorted(numbers))]
    ends = sorted({end for box in boxes for end in box[0]})
    rows = []
    for low, high in zip(ends, ends[1:]):
        there = [(box[1:], number) for box, number in zip(boxes, numbers) if box[0][0] <= low and high <= box[0][1]]
        if there:
            rest = paper_plainly([box for box, number in there], [number for box, number in there])
            rows += [(((low, high),) + box, held) for box, held in rest]
    return rows


def told_plainly(heap):
    return sorted(paper_plainly(heap[1], range(len(heap[1])))) if heap[1] else []


def says_plainly(one):
    return (one.covered(), one.often())


def spot_rows(one):
    """A row for each covered spot of near, drawn apart."""
    return [(drawn_apart(tuple((number, number + 1) for number in spot), one.places), list(held))
            for spot, held in one.holders.items()]


def is_paper_plainly(near, rows):
    """By the words of the point, spot by spot: rows as near as the heap, and of the right form."""
    inside = list(spots(near[0], PLACES_LOW - 2, PLACES_HIGH + 2))
    sizes = [0] * len(near[1])
    times = dict.fromkeys(inside, 0)
    for box, numbers in rows:
        if not numbers or any(ahead >= behind for ahead, behind in zip(numbers, numbers[1:])):
            return False
        if any(number not in range(len(near[1])) for number in numbers):
            return False
        held = [spot for spot in inside if holds_plainly(box, spot)]
        for number in numbers:
            if not all(holds_plainly(near[1][number], spot) for spot in held):
                return False
            sizes[number] += len(held)
        for spot in held:
            times[spot] += 1
    whole = [sum(holds_plainly(box, spot) for spot in inside) for box in near[1]]
    return sizes == whole and max(times.values()) <= 1


def with_row(paper, place, row):
    return paper[:place] + [row] + paper[place + 1:]


def cut_in_two(box, way, middle):
    low, high = box[way]
    return [box[:way] + (stretch,) + box[way + 1:] for stretch in [(low, middle), (middle, high)]]


class TestTheToldPaper(unittest.TestCase):
    def test_of_no_boxes(self):
        for ways in UNIT:
            self.assertEqual(told(self, paper_of, (ways, [])), [])

    def test_on_a_line(self):
        self.assertEqual(told(self, paper_of, (1, [((3, 7),)])), [(((3, 7),), [0])])
        self.assertEqual(told(self, paper_of, (1, [((0, 5),), ((3, 9),), ((12, 14),)])), [
            (((0, 3),), [0]), (((3, 5),), [0, 1]), (((5, 9),), [1]), (((12, 14),), [2])])
        # It is cut at all lows and highs, also where the boxes that hold it stay the same in number.
        self.assertEqual(told(self, paper_of, (1, [((2, 4),), ((0, 2),)])), [(((0, 2),), [1]), (((2, 4),), [0])])

    def test_in_a_plane(self):
        self.assertEqual(told(self, paper_of, PLANE), [
            (((0, 2), (0, 4)), [0]), (((2, 4), (0, 1)), [0]), (((2, 4), (1, 3)), [0, 1]), (((2, 4), (3, 4)), [0]),
            (((4, 6), (1, 3)), [1])])

    def test_cut_at_the_ends_of_boxes_elsewhere_in_the_first_way_alone(self):
        heap = (2, [((0, 9), (0, 9)), ((3, 5), (20, 22))])
        self.assertEqual(told(self, paper_of, heap), [
            (((0, 3), (0, 9)), [0]), (((3, 5), (0, 9)), [0]), (((3, 5), (20, 22)), [1]), (((5, 9), (0, 9)), [0])])

    def test_in_space(self):
        self.assertEqual(told(self, paper_of, SPACE), [
            (((0, 1), (0, 3), (0, 5)), [0]), (((1, 2), (0, 2), (0, 5)), [0]), (((1, 2), (2, 3), (-3, 0)), [1]),
            (((1, 2), (2, 3), (0, 1)), [0, 1]), (((1, 2), (2, 3), (1, 5)), [0]), (((1, 2), (3, 9), (-3, 1)), [1]),
            (((2, 3), (2, 3), (-3, 1)), [1]), (((2, 3), (3, 4), (-3, 1)), [1]), (((2, 3), (3, 4), (5, 6)), [2]),
            (((2, 3), (4, 9), (-3, 1)), [1]), (((3, 4), (2, 9), (-3, 1)), [1])])

    def test_alike(self):
        for ways, most in LIMITS.items():
            for many in range(1, most + 1):
                self.assertEqual(told(self, paper_of, (ways, [UNIT[ways]] * many)), [(UNIT[ways], list(range(many)))])

    def test_by_its_own_words(self):
        for ways in UNIT:
            for one in counted(ways):
                self.assertEqual(told(self, paper_of, one.heap), told_plainly(one.heap), one.heap)

    def test_far_out(self):
        for ways in UNIT:
            whole = ((-FAR, FAR),) * ways
            self.assertEqual(told(self, paper_of, (ways, [whole])), [(whole, [0])])
            size = (2 * FAR) ** ways
            self.assertEqual(told(self, paper_says, (ways, [whole]), [(whole, [0])]), (size, [size]))

    def test_the_kinds(self):
        for row in paper_of(SPACE):
            self.assertEqual([type(row), type(row[0]), type(row[1]), len(row)], [tuple, tuple, list, 2])
        answer = paper_says(SPACE, paper_of(SPACE))
        self.assertEqual([type(answer), type(answer[0]), type(answer[1]), len(answer)], [tuple, int, list, 2])


class TestWhatPapersSay(unittest.TestCase):
    def test_of_no_boxes(self):
        for ways in UNIT:
            self.assertEqual(told(self, paper_says, (ways, []), []), (0, []))
            self.assertIsNone(told(self, paper_says, (ways, [UNIT[ways]]), []))
            self.assertIsNone(told(self, paper_says, (ways, []), [(UNIT[ways], [])]))
            self.assertIsNone(told(self, paper_says, (ways, []), [(UNIT[ways], [0])]))

    def test_told_ones(self):
        self.assertEqual(told(self, paper_says, PLANE, paper_of(PLANE)), (20, [16, 4]))
        for ways in UNIT:
            for one in counted(ways):
                self.assertEqual(told(self, paper_says, one.heap, paper_of(one.heap)), says_plainly(one), one.heap)

    def test_counts_that_no_row_has_are_told_as_0(self):
        heap = (1, [((0, 3),)] * 3 + [((5, 9),)])
        self.assertEqual(told(self, paper_says, heap, paper_of(heap)), (7, [4, 0, 3]))

    def test_in_any_order(self):
        for ways in UNIT:
            for one in counted(ways, 20):
                paper = paper_of(one.heap)
                for other in [paper[::-1], paper[1:] + paper[:1], paper[::2] + paper[1::2]]:
                    self.assertEqual(told(self, paper_says, one.heap, other), says_plainly(one), one.heap)

    def test_parted_otherwise(self):
        chance = random.Random(23)
        for ways in UNIT:
            for one in counted(ways, 20):
                rows = spot_rows(one)
                chance.shuffle(rows)
                self.assertEqual(told(self, paper_says, one.heap, rows), says_plainly(one), one.heap)
        rows = [(((2, 6), (1, 3)), [1]), (((0, 4), (0, 4)), [0])]
        self.assertIsNone(told(self, paper_says, PLANE, rows))
        rows = [(((0, 4), (3, 4)), [0]), (((0, 4), (0, 1)), [0]), (((4, 6), (1, 3)), [1]), (((0, 2), (1, 3)), [0]),
                (((2, 4), (1, 3)), [0, 1])]
        self.assertEqual(told(self, paper_says, PLANE, rows), (20, [16, 4]))
        wheel = [((0, 2), (0, 1)), ((2, 3), (0, 2)), ((1, 3), (2, 3)), ((0, 1), (1, 3)), ((1, 2), (1, 2))]
        heap = (2, [((0, 3), (0, 3))])
        self.assertEqual(told(self, paper_says, heap, [(box, [0]) for box in wheel]), (9, [9]))
        self.assertIsNone(told(self, paper_says, heap, [(box, [0]) for box in wheel[:4]]))

    def test_a_row_out_or_twice(self):
        for ways in UNIT:
            for one in counted(ways, 10):
                paper = paper_of(one.heap)
                for place, row in enumerate(paper[:12]):
                    out = paper[:place] + paper[place + 1:]
                    self.assertIsNone(told(self, paper_says, one.heap, out))
                    self.assertIsNone(told(self, paper_says, one.heap, paper + [row]))
                    self.assertIsNone(told(self, paper_says, one.heap, [row, row] + out))

    def test_a_box_longer_shorter_or_moved(self):
        for ways in UNIT:
            for one in counted(ways, 10):
                paper = paper_of(one.heap)
                for place, row in enumerate(paper[:8]):
                    for box in changed_otherwise(row[0]):
                        changed = with_row(paper, place, (box, row[1]))
                        self.assertIsNone(paper_says(one.heap, changed), (one.heap, changed))

    def test_a_number_more_less_or_another(self):
        for ways in UNIT:
            for one in counted(ways, 10):
                paper = paper_of(one.heap)
                many = len(one.heap[1])
                for place, row in enumerate(paper[:8]):
                    wrong = [row[1][:at] + row[1][at + 1:] for at in range(len(row[1]))]
                    wrong += [sorted(row[1] + [number]) for number in range(-1, many + 2) if number not in row[1]]
                    wrong += [sorted(row[1][1:] + [number]) for number in range(-1, many + 2) if number != row[1][0]]
                    for numbers in wrong:
                        changed = with_row(paper, place, (row[0], numbers))
                        self.assertIsNone(paper_says(one.heap, changed), (one.heap, changed))

    def test_numbers_not_rising(self):
        heap = (1, [((0, 3),)] * 3)
        box = ((0, 3),)
        self.assertEqual(told(self, paper_says, heap, [(box, [0, 1, 2])]), (3, [0, 0, 3]))
        for numbers in [[0, 2, 1], [2, 1, 0], [1, 0, 2], [0, 0, 1, 2], [0, 1, 1, 2], [0, 1, 2, 2], [-3, -2, -1],
                        [0, 1, 3], [0, 1, -1], [0, 1, LONG], [-LONG, 0, 1, 2], []]:
            self.assertIsNone(told(self, paper_says, heap, [(box, numbers)]), numbers)

    def test_a_number_twice_does_not_make_up_for_what_is_left_out(self):
        for ways in UNIT:
            rest = UNIT[ways][1:]
            for many in (1, 2):
                heap = (ways, [((0, 4),) + rest] * many)
                half = ((0, 2),) + rest
                twice = sorted(list(range(many)) * 2)
                self.assertIsNone(told(self, paper_says, heap, [(half, twice)]))
                self.assertIsNone(told(self, paper_says, heap, [(half, list(range(many)) * 2)]))
                wanted = [0] * (many - 1) + [4]
                rows = [(half, list(range(many))), (((2, 4),) + rest, list(range(many)))]
                self.assertEqual(told(self, paper_says, heap, rows), (4, wanted))

    def test_a_number_below_0_is_none(self):
        # Python would count it from the end.
        self.assertIsNone(told(self, paper_says, (1, [((0, 3),)]), [(((0, 3),), [-1])]))

    def test_truths_are_no_numbers(self):
        heap = (1, [((0, 1),), ((0, 1),)])
        self.assertEqual(told(self, paper_says, heap, [(((0, 1),), [0, 1])]), (1, [0, 1]))
        for numbers in [[False, 1], [0, True], [False, True]]:
            self.assertIsNone(told(self, paper_says, heap, [(((0, 1),), numbers)]))
        for stretch in [(False, 1), (0, True), (False, True)]:
            self.assertIsNone(told(self, paper_says, heap, [((stretch,), [0, 1])]))

    def test_two_that_balance(self):
        heap = (1, [((0, 4),), ((2, 6),)])
        right = [(((0, 2),), [0]), (((2, 4),), [0, 1]), (((4, 6),), [1])]
        self.assertEqual(told(self, paper_says, heap, right), (6, [4, 2]))
        # Sizes come to those of the boxes, but rows share spots or lie elsewhere.
        wrong = [
            [(((0, 4),), [0]), (((2, 6),), [1])],
            [(((0, 2),), [0]), (((2, 4),), [0]), (((2, 4),), [1]), (((4, 6),), [1])],
            [(((0, 2),), [0]), (((0, 2),), [0]), (((2, 4),), [1]), (((4, 6),), [1])],
            [(((0, 2),), [0]), (((4, 6),), [0, 1]), (((2, 4),), [1])],
            [(((0, 2),), [0, 1]), (((2, 4),), [0]), (((4, 6),), [1])],
            [(((0, 2),), [1]), (((2, 4),), [0, 1]), (((4, 6),), [0])],
            [(((1, 3),), [0]), (((2, 4),), [0, 1]), (((4, 6),), [1])],
            [(((0, 3),), [0]), (((2, 3),), [0, 1]), (((3, 6),), [1])],
            [(((0, 1),), [0]), (((1, 4),), [0, 1]), (((4, 5),), [1])],
        ]
        for rows in wrong:
            self.assertIsNone(told(self, paper_says, heap, rows), rows)

    def test_rows_without_a_number_in_common_are_apart_too(self):
        for ways in UNIT:
            heap = (ways, [((0, 2),) * ways, ((1, 3),) * ways])
            rows = [(((0, 2),) * ways, [0]), (((1, 3),) * ways, [1])]
            self.assertIsNone(told(self, paper_says, heap, rows))
            alike = (ways, [UNIT[ways], UNIT[ways]])
            self.assertIsNone(told(self, paper_says, alike, [(UNIT[ways], [0]), (UNIT[ways], [1])]))
            self.assertEqual(told(self, paper_says, alike, [(UNIT[ways], [0, 1])]), (1, [0, 1]))

    def test_boxes_that_share_spots_far_apart_in_order(self):
        # In order of their lows many others stand between the first and the last one.
        thin = [((place, place + 1), (1, 2)) for place in range(1, 9)]
        heap = (2, [((0, 10), (0, 1)), ((9, 10), (0, 2))] + thin)
        rows = [(((0, 9), (0, 1)), [0]), (((9, 10), (0, 1)), [0, 1]), (((9, 10), (1, 2)), [1])]
        rows += [(box, [number]) for number, box in enumerate(thin, start=2)]
        self.assertEqual(told(self, paper_says, heap, rows), (19, [18, 1]))
        rows[0] = (((0, 10), (0, 1)), [0])
        rows[1] = (((9, 10), (0, 1)), [1])
        self.assertIsNone(told(self, paper_says, heap, rows))

    def test_as_they_come_against_counting(self):
        chance = random.Random(24)
        found = {True: 0, False: 0}
        for ways in UNIT:
            for one in counted(ways, 12):
                if one.places != NEAR_PLACES:
                    continue
                for _ in range(8):
                    rows = told_plainly(one.near)
                    for _ in range(chance.randint(0, 3)):
                        rows = self.altered(chance, rows, len(one.near[1]))
                    chance.shuffle(rows)
                    wanted = is_paper_plainly(one.near, rows)
                    found[wanted] += 1
                    answer = told(self, paper_says, one.near, rows)
                    self.assertEqual(answer, says_plainly(one) if wanted else None, (one.near, rows))
        self.assertTrue(min(found.values()) > 50, found)

    def altered(self, chance, rows, many):
        if not rows:
            return rows
        place = chance.randrange(len(rows))
        box, numbers = rows[place]
        rest = rows[:place] + rows[place + 1:]
        way = chance.randrange(len(box))
        low, high = box[way]
        deed = chance.randrange(10)
        if deed < 6 and high - low > 1:
            middle = chance.randrange(low + 1, high)
            return rest + [(part, list(numbers)) for part in cut_in_two(box, way, middle)]
        if deed == 6:
            return rest + [(chance.choice(list(changed_otherwise(box))), numbers)]
        if deed == 7:
            return rest + [(box, sorted(set(numbers) ^ {chance.randrange(many)}))]
        if deed == 8 and len(numbers) > 1:
            return rest + [(box, numbers[:1]), (box, numbers[1:])]
        return rows

    def test_what_is_let_by_says_what_is_so(self):
        # Every list of rows over a small line: whatever is let by tells what counting tells.
        boxes = [((0, 1),), ((1, 2),), ((0, 2),), ((1, 3),), ((2, 3),)]
        rows = list(itertools.product(boxes, [[0], [1], [0, 1]]))
        for heap in [(1, [((0, 2),), ((1, 3),)]), (1, [((0, 2),), ((0, 2),)]), (1, [((0, 2),), ((0, 3),)])]:
            one = Counted(heap, NEAR_PLACES)
            let_by = 0
            for many in range(5):
                for paper in itertools.combinations(rows, many):
                    answer = paper_says(heap, list(paper))
                    self.assertEqual(answer is not None, is_paper_plainly(heap, paper), (heap, paper))
                    if answer is not None:
                        let_by += 1
                        self.assertEqual(answer, says_plainly(one), (heap, paper))
            self.assertGreater(let_by, 0)

    def test_other_kinds(self):
        for ways in UNIT:
            heap = (ways, [UNIT[ways], UNIT[ways]])
            row = (UNIT[ways], [0, 1])
            self.assertEqual(told(self, paper_says, heap, [row]), (1, [0, 1]))
            wrong = [(row,), {0: row}, row, [[row]], [list(row)], [row + ((),)], [row[:1]], [(row[0], (0, 1))],
                     [(row[0], {0: 0, 1: 1})], [(row[0], "01")], [(row[1], row[0])], [{0: row[0], 1: row[1]}],
                     [(row[0], [0, "1"])], [(row[0], [0, None])], [(row[0], [[0], [1]])], [(row[0], [(0,), 1])],
                     [(row[0], 0)], [(row[0], 1)], [(row[0], None)], [(row[0], [0, 1], [0, 1])], str([row])]
            for thing in wrong + things():
                self.assertIsNone(told(self, paper_says, heap, thing), thing)
            for thing in things():
                self.assertIsNone(told(self, paper_says, heap, [row, thing]), thing)
                self.assertIsNone(told(self, paper_says, heap, [thing, row]), thing)
                if thing != [0, 1]:
                    self.assertIsNone(told(self, paper_says, heap, [(UNIT[ways], thing)]), thing)
            for box in no_boxes(ways):
                self.assertIsNone(told(self, paper_says, heap, [(box, [0, 1])]), box)
                self.assertIsNone(told(self, paper_says, heap, [row, (box, [0])]), box)

    def test_the_paper_of_another_heap(self):
        for ways, other in itertools.permutations(UNIT, 2):
            paper = paper_of((other, [UNIT[other]]))
            self.assertIsNone(told(self, paper_says, (ways, [UNIT[ways]]), paper))
        self.assertIsNone(told(self, paper_says, PLANE, paper_of((2, PLANE[1][::-1]))))
        self.assertIsNone(told(self, paper_says, PLANE, paper_of((2, PLANE[1][:1]))))
        self.assertIsNone(told(self, paper_says, (2, PLANE[1][:1]), paper_of(PLANE)))

    def test_numbers_of_forty_figures(self):
        for ways in UNIT:
            heap = (ways, [UNIT[ways]])
            self.assertIsNone(told(self, paper_says, heap, [(((-LONG, LONG),) * ways, [0])]))
            self.assertIsNone(told(self, paper_says, heap, [(UNIT[ways], [LONG])]))


class TestPapersOfManyRows(unittest.TestCase):
    def many(self):
        """Six boxes in space whose ends are all different and that meet in the middle: a paper of many rows."""
        return (3, [((place, 20 - place), (10 - place, 11 + place), (place - 5, place * 2 + 7)) for place in range(6)])

    def test_of_six_boxes_in_space(self):
        heap = self.many()
        paper = told(self, paper_of, heap)
        self.assertGreater(len(paper), 200)
        says = told(self, paper_says, heap, paper)
        self.assertEqual(paper_says(heap, paper[::-1]), says)
        for place in range(0, len(paper), 37):
            self.assertIsNone(paper_says(heap, paper[:place] + paper[place + 1:]))
            self.assertIsNone(paper_says(heap, paper + [paper[place]]))

    def test_of_fourteen_hundred_rows(self):
        rods = [(((place, place + 1),), [0]) for place in range(1400)]
        self.assertEqual(told(self, paper_says, (1, [((0, 1400),)]), rods), (1400, [1400]))
        self.assertIsNone(told(self, paper_says, (1, [((0, 1400),)]), rods[:-1] + rods[:1]))
        self.assertIsNone(told(self, paper_says, (1, [((0, 1399),)]), rods))
        self.assertIsNone(told(self, paper_says, (1, [((0, 1401),)]), rods))
        cubes = [(tuple((number, number + 1) for number in spot), [0, 1])
                 for spot in itertools.product(range(11), repeat=3)]
        whole = (3, [((0, 11),) * 3] * 2)
        self.assertEqual(told(self, paper_says, whole, cubes), (1331, [0, 1331]))
        self.assertIsNone(told(self, paper_says, whole, cubes[:-1] + cubes[:1]))
        # None of these is apart from another one by the first way.
        slabs = [(((-FAR, FAR), (place % 40, place % 40 + 1), (place // 40, place // 40 + 1)), [0])
                 for place in range(1400)]
        heap = (3, [((-FAR, FAR), (0, 40), (0, 35))])
        self.assertEqual(told(self, paper_says, heap, slabs), (2800 * FAR, [2800 * FAR]))
        self.assertIsNone(told(self, paper_says, heap, slabs[:-1] + slabs[:1]))

    def test_of_as_many_boxes_as_may_be(self):
        line = (1, [((place, 40 - place),) for place in range(20)])
        self.assertEqual(told(self, paper_says, line, paper_of(line)), (40, [2] * 20))
        plane = (2, ring(0, 9) + ring(1, 8) + ring(2, 7)[:2])
        self.assertEqual(told(self, paper_says, plane, paper_of(plane)), says_plainly_far(plane))


def says_plainly_far(heap):
    """By counting over the numbers from 0 to 9 either way."""
    times = [sum(holds_plainly(box, spot) for box in heap[1]) for spot in itertools.product(range(10), repeat=2)]
    return (sum(count > 0 for count in times), [times.count(count) for count in range(1, max(times) + 1)])


class TestRefusals(unittest.TestCase):
    def test_no_heap(self):
        for thing in no_heaps():
            refused(self, NoHeap, paper_of, thing)
            for paper in [[], None, [(UNIT[1], [0])]]:
                refused(self, NoHeap, paper_says, thing, paper)


class TestNothingIsKept(unittest.TestCase):
    def test_what_changes_between_two_calls(self):
        heap = (1, [((0, 4),)])
        paper = paper_of(heap)
        says = paper_says(heap, paper)
        paper[0][1].append(1)
        self.assertEqual(says, (4, [4]))
        self.assertIsNone(paper_says(heap, paper))
        heap[1].append(((0, 4),))
        self.assertEqual(paper_says(heap, paper), (4, [0, 4]))
        self.assertEqual(paper_of(heap), [(((0, 4),), [0, 1])])
        says[1].clear()
        self.assertEqual(paper_says(heap, paper), (4, [0, 4]))


if __name__ == "__main__":
    unittest.main()
