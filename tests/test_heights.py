import itertools
import random
import unittest

from boxcover.errors import NoHouses, NoNumber, NoSkyline
from boxcover.heights import (
    are_houses, area_under, fewest_houses, height_at, higher_of, houses_of, is_skyline, lower_of, skyline_of,
)
from tests.helper import (
    FAR, FAR_PLACES, LONG, NEAR_PLACES, PLACES_HIGH, PLACES_LOW, all_stretches, drawn_apart, no_houses, no_skylines,
    no_wholes, refused, things, told,
)

NUMBERS = range(PLACES_LOW - 1, PLACES_HIGH + 2)
TOWN = [(0, 6, 3), (4, 9, 5), (2, 3, 8), (12, 14, 1), (9, 10, 5)]
TOWN_LINE = [(0, 3), (2, 8), (3, 3), (4, 5), (10, 0), (12, 1), (14, 0)]


def height_plainly(houses, number):
    return max([height for low, high, height in houses if number in range(low, high)] + [0])


def heights_plainly(houses):
    return {number: height_plainly(houses, number) for number in NUMBERS}


def line_of_heights(heights):
    """The skyline of heights told number by number, from the least number on; all others have 0."""
    line = []
    for number in sorted(heights):
        if heights[number] != heights.get(number - 1, 0):
            line.append((number, heights[number]))
    return line


def heights_of_line(line):
    heights = {}
    for number in NUMBERS:
        heights[number] = ([0] + [height for start, height in line if start <= number])[-1]
    return heights


def shapes_of_houses():
    """Houses of each shape, between PLACES_LOW and PLACES_HIGH."""
    towns = [[], [(0, 1, 1)], [(-3, 4, 7)], [(-2, 2, 5)] * 2, [(-2, 2, 5)] * 40]
    towns += [[(-3, 0, 2), (0, 4, 2)], [(0, 4, 2), (-3, 0, 3)], [(-3, -1, 4), (1, 3, 4)], [(1, 3, 2), (-3, -1, 6)]]
    towns += [[(-1, 1, 3), (-3, 4, 3)], [(-1, 1, 2), (-3, 4, 3)], [(-1, 1, 9), (-2, 2, 5), (-3, 4, 3)]]
    towns += [[(-3, 1, 4), (0, 4, 4)], [(-3, 1, 4), (0, 4, 6), (0, 1, 6)], [(-3, 4, 1)] + [(-3, 1, 2), (0, 4, 3)]]
    towns.append([(place % 7 - 3, 4, place // 7 + place % 3 + 1) for place in range(40)])
    towns.append([(place % 7 - 3, place % 7 - 2, place % 5 + 1) for place in range(40)])
    towns.append([(-3, 4 - place % 7, place % 7 + 1) for place in range(40)])
    return towns


def mixed_houses(many, seed):
    chance = random.Random(seed)
    stretches = all_stretches(PLACES_LOW, PLACES_HIGH)
    for turn in range(many):
        count = chance.randint(1, 5 if turn % 2 else 40)
        top = (2, 4, 9)[turn % 3]
        yield [chance.choice(stretches) + (chance.randint(1, top),) for _ in range(count)]


def towns_apart():
    """Houses near, with the same drawn apart and as high as 10 ** 9."""
    for near in shapes_of_houses() + list(mixed_houses(60, 5)):
        yield near, NEAR_PLACES, 1
        yield near, FAR_PLACES, FAR // 10


def drawn_houses(houses, places, scale):
    return [drawn_apart(house[:2], places) + (house[2] * scale,) for house in houses]


def drawn_line(line, places, scale):
    return [(drawn_apart(number, places), height * scale) for number, height in line]


def all_lines(long, top):
    for heights in itertools.product(range(top + 1), repeat=long):
        yield line_of_heights(dict(enumerate(heights + (0,))))


def zigzag(many):
    """A skyline of so many corners, heights going up and down."""
    heights = [place * 7 % 11 + 1 + 11 * (place % 2) for place in range(many - 1)]
    return [(place * 3 - many, height) for place, height in enumerate(heights + [0])]


class TestWhatIsOne(unittest.TestCase):
    def test_houses(self):
        long = [[(-LONG, LONG, 1)], [(0, 1, LONG)], [(0, 1, 1)] * 41, [(LONG, LONG + 1, 1), (0, 1, 2)]]
        for houses in shapes_of_houses() + long + [TOWN, [(0, 1, 2)], [(-FAR, FAR, FAR)] * 40]:
            self.assertIs(told(self, are_houses, houses), True, houses)

    def test_no_houses(self):
        for thing in no_houses():
            self.assertIs(told(self, are_houses, thing), False, thing)

    def test_skylines(self):
        lines = [[], [(0, 1), (1, 0)], TOWN_LINE, [(-LONG, LONG), (LONG, 0)], [(0, 1), (1, 0), (2, 1), (3, 0)]]
        lines += [[(0, 1), (1, 2), (2, 1), (3, 0)], [(0, 2), (1, 1), (2, 2), (3, 0)], [(-FAR, FAR), (FAR, 0)]]
        for line in lines + [zigzag(many) for many in range(2, 82)]:
            self.assertIs(told(self, is_skyline, line), True, line)

    def test_no_skylines(self):
        for thing in no_skylines():
            self.assertIs(told(self, is_skyline, thing), False, thing)

    def test_each_list_of_few_corners(self):
        corners = list(itertools.product(range(3), repeat=2))
        for many in range(4):
            for line in itertools.product(corners, repeat=many):
                # It is one where heights told number by number lead to it again, and come back to 0.
                heights = heights_of_line(line)
                wanted = list(line) == line_of_heights(heights) and heights[NUMBERS[-1]] == 0
                self.assertIs(told(self, is_skyline, list(line)), wanted, line)

    def test_houses_are_no_skyline_but_none(self):
        for houses in shapes_of_houses():
            self.assertIs(is_skyline(houses), houses == [])
            self.assertIs(are_houses(skyline_of(houses)), houses == [])


class TestHeights(unittest.TestCase):
    def test_a_low_is_in_a_high_is_not(self):
        for low, high in [(3, 7), (-FAR, FAR), (-1, 0)]:
            for number, height in [(low - 1, 0), (low, 4), (high - 1, 4), (high, 0), (LONG, 0), (-LONG, 0)]:
                self.assertEqual(told(self, height_at, [(low, high, 4)], number), height)

    def test_the_greatest_goes(self):
        for number, height in [(-1, 0), (0, 3), (1, 3), (2, 8), (3, 3), (4, 5), (9, 5), (10, 0), (12, 1), (14, 0)]:
            self.assertEqual(told(self, height_at, TOWN, number), height)
            self.assertEqual(told(self, height_at, TOWN[::-1], number), height)

    def test_of_none(self):
        for number in [0, FAR, -FAR, LONG, -LONG]:
            self.assertEqual(told(self, height_at, [], number), 0)

    def test_against_counting(self):
        for near, places, scale in towns_apart():
            houses = drawn_houses(near, places, scale)
            for number in range(PLACES_LOW, PLACES_HIGH + 1):
                wanted = height_plainly(near, number) * scale
                self.assertEqual(told(self, height_at, houses, drawn_apart(number, places)), wanted, (houses, number))


class TestSkylines(unittest.TestCase):
    def test_a_town(self):
        self.assertEqual(told(self, skyline_of, TOWN), TOWN_LINE)
        for order in itertools.permutations(TOWN):
            self.assertEqual(skyline_of(list(order)), TOWN_LINE)

    def test_of_none_and_of_one(self):
        self.assertEqual(told(self, skyline_of, []), [])
        self.assertEqual(told(self, skyline_of, [(3, 7, 2)]), [(3, 2), (7, 0)])
        self.assertEqual(told(self, skyline_of, [(-FAR, FAR, FAR)]), [(-FAR, FAR), (FAR, 0)])

    def test_alike(self):
        for many in range(1, 41):
            self.assertEqual(told(self, skyline_of, [(3, 7, 2)] * many), [(3, 2), (7, 0)])

    def test_beside_one_another(self):
        self.assertEqual(told(self, skyline_of, [(3, 7, 2), (0, 3, 2)]), [(0, 2), (7, 0)])
        self.assertEqual(told(self, skyline_of, [(3, 7, 2), (0, 3, 1)]), [(0, 1), (3, 2), (7, 0)])
        self.assertEqual(told(self, skyline_of, [(3, 7, 2), (0, 2, 2)]), [(0, 2), (2, 0), (3, 2), (7, 0)])

    def test_within_one_another(self):
        self.assertEqual(told(self, skyline_of, [(0, 9, 3), (2, 4, 3)]), [(0, 3), (9, 0)])
        self.assertEqual(told(self, skyline_of, [(0, 9, 3), (2, 4, 2)]), [(0, 3), (9, 0)])
        self.assertEqual(told(self, skyline_of, [(2, 4, 5), (0, 9, 3)]), [(0, 3), (2, 5), (4, 3), (9, 0)])
        self.assertEqual(told(self, skyline_of, [(0, 4, 5), (0, 9, 3), (8, 9, 4)]), [(0, 5), (4, 3), (8, 4), (9, 0)])

    def test_forty_houses(self):
        rising = [(place, 40, place + 1) for place in range(40)]
        self.assertEqual(told(self, skyline_of, rising), [(place, place + 1) for place in range(40)] + [(40, 0)])
        nested = [(place, 80 - place, place + 1) for place in range(40)]
        self.assertEqual(len(told(self, skyline_of, nested)), 80)
        apart = [(2 * place, 2 * place + 1, 7) for place in range(40)]
        wanted = [(number, 7 - number % 2 * 7) for number in range(80)]
        self.assertEqual(told(self, skyline_of, apart), wanted)

    def test_against_counting(self):
        for near, places, scale in towns_apart():
            houses = drawn_houses(near, places, scale)
            wanted = drawn_line(line_of_heights(heights_plainly(near)), places, scale)
            line = told(self, skyline_of, houses)
            self.assertEqual(line, wanted, houses)
            self.assertTrue(is_skyline(line))


class TestHousesOfSkylines(unittest.TestCase):
    def test_a_town(self):
        self.assertEqual(told(self, houses_of, TOWN_LINE), [
            (0, 2, 3), (2, 3, 8), (3, 4, 3), (4, 10, 5), (12, 14, 1)])
        self.assertEqual(told(self, fewest_houses, TOWN_LINE), [(0, 10, 3), (2, 3, 8), (4, 10, 5), (12, 14, 1)])
        self.assertEqual(told(self, area_under, TOWN_LINE), 6 + 8 + 3 + 30 + 2)

    def test_of_none(self):
        for ask, wanted in [(houses_of, []), (fewest_houses, []), (area_under, 0)]:
            self.assertEqual(told(self, ask, []), wanted)

    def test_far_out(self):
        line = [(-FAR, FAR), (0, 1), (1, FAR), (FAR, 0)]
        self.assertEqual(told(self, houses_of, line), [(-FAR, 0, FAR), (0, 1, 1), (1, FAR, FAR)])
        self.assertEqual(told(self, fewest_houses, line), [(-FAR, 0, FAR), (-FAR, FAR, 1), (1, FAR, FAR)])
        self.assertEqual(told(self, area_under, line), FAR * FAR + 1 + (FAR - 1) * FAR)

    def test_as_high_with_a_lower_one_between(self):
        line = [(0, 5), (1, 2), (2, 5), (3, 2), (4, 5), (5, 0)]
        self.assertEqual(told(self, fewest_houses, line), [(0, 1, 5), (0, 5, 2), (2, 3, 5), (4, 5, 5)])

    def test_as_high_with_a_higher_one_between(self):
        line = [(0, 2), (1, 5), (2, 2), (3, 5), (4, 2), (5, 0)]
        self.assertEqual(told(self, fewest_houses, line), [(0, 5, 2), (1, 2, 5), (3, 4, 5)])

    def test_as_high_with_a_gap_between(self):
        line = [(0, 2), (1, 0), (2, 2), (3, 0)]
        self.assertEqual(told(self, fewest_houses, line), [(0, 1, 2), (2, 3, 2)])
        self.assertEqual(told(self, houses_of, line), [(0, 1, 2), (2, 3, 2)])

    def test_skylines_of_eighty(self):
        rising = [(place, place + 1) for place in range(79)] + [(79, 0)]
        self.assertEqual(told(self, fewest_houses, rising), [(place, 79, place + 1) for place in range(79)])
        self.assertEqual(told(self, houses_of, rising), [(place, place + 1, place + 1) for place in range(79)])
        self.assertEqual(told(self, area_under, rising), 79 * 80 // 2)
        nested = skyline_of([(place, 80 - place, place + 1) for place in range(40)])
        self.assertEqual(len(nested), 80)
        self.assertEqual(told(self, fewest_houses, nested), [(place, 80 - place, place + 1) for place in range(40)])
        self.assertEqual(told(self, area_under, nested), sum(80 - 2 * place for place in range(40)))
        comb = [(place, 3 - place % 2 * 2) for place in range(79)] + [(79, 0)]
        teeth = [(place, place + 1, 3) for place in range(0, 79, 2)]
        self.assertEqual(told(self, fewest_houses, comb), sorted(teeth + [(0, 79, 1)]))

    def test_sorted(self):
        for many in range(2, 81):
            fewest = told(self, fewest_houses, zigzag(many))
            self.assertEqual(fewest, sorted(set(fewest)))

    def test_against_counting(self):
        for near, places, scale in towns_apart():
            near_line = line_of_heights(heights_plainly(near))
            line = drawn_line(near_line, places, scale)
            heights = heights_plainly(near)
            widths = {number: drawn_apart(number + 1, places) - drawn_apart(number, places)
                      for number in range(PLACES_LOW, PLACES_HIGH)}
            area = sum(heights[number] * scale * width for number, width in widths.items())
            self.assertEqual(told(self, area_under, line), area, line)
            self.assertEqual(told(self, houses_of, line), drawn_houses(side_by_side(near_line), places, scale), line)
            self.assertEqual(told(self, fewest_houses, line), drawn_houses(widest(heights), places, scale), line)

    def test_there_and_back(self):
        lines = [line_of_heights(heights_plainly(near)) for near, places, scale in towns_apart()]
        for line in lines + list(all_lines(5, 3)) + [zigzag(many) for many in range(2, 81)]:
            self.assertEqual(skyline_of(houses_of(line)), line)
            self.assertEqual(skyline_of(fewest_houses(line)), line)


def side_by_side(line):
    found = []
    for place in range(len(line) - 1):
        if line[place][1] != 0:
            found.append((line[place][0], line[place + 1][0], line[place][1]))
    return found


def widest(heights):
    """For each number with a height: how far to either side no number is lower."""
    found = set()
    for number, height in heights.items():
        if height:
            low = number
            while heights.get(low - 1, 0) >= height:
                low -= 1
            high = number + 1
            while heights.get(high, 0) >= height:
                high += 1
            found.add((low, high, height))
    return sorted(found)


class TestFewest(unittest.TestCase):
    def test_against_a_search(self):
        # Each set of houses under the skyline that has it: none is fewer, none as few is wider anywhere.
        for line in itertools.chain(all_lines(4, 3), all_lines(5, 2)):
            heights = heights_of_line(line)
            under = [stretch + (height,) for stretch in all_stretches(0, 5) for height in range(1, 4)
                     if all(heights[number] >= height for number in range(*stretch))]
            fewest = told(self, fewest_houses, line)
            self.assertEqual(skyline_of(fewest), line)
            for many in range(len(fewest)):
                for houses in itertools.combinations(under, many):
                    self.assertNotEqual(heights_plainly(houses), heights, (line, houses))
            if len(fewest) <= 3:
                self.check_as_wide_as_can_be(fewest, under, heights)

    def check_as_wide_as_can_be(self, fewest, under, heights):
        for houses in itertools.combinations(under, len(fewest)):
            if heights_plainly(houses) == heights:
                for low, high, height in houses:
                    around = [one for one in fewest if one[0] <= low and high <= one[1] and one[2] == height]
                    self.assertEqual(len(around), 1, (fewest, houses))


class TestTwoSkylines(unittest.TestCase):
    def test_two(self):
        one = [(0, 3), (4, 1), (8, 0)]
        other = [(2, 2), (6, 4), (10, 0)]
        self.assertEqual(told(self, higher_of, one, other), [(0, 3), (4, 2), (6, 4), (10, 0)])
        self.assertEqual(told(self, lower_of, one, other), [(2, 2), (4, 1), (8, 0)])

    def test_with_none(self):
        for line in [[], TOWN_LINE, zigzag(80)]:
            for one, other in [(line, []), ([], line)]:
                self.assertEqual(told(self, higher_of, one, other), line)
                self.assertEqual(told(self, lower_of, one, other), [])

    def test_with_itself(self):
        for line in [[], TOWN_LINE, zigzag(80), [(-FAR, FAR), (FAR, 0)]]:
            self.assertEqual(told(self, higher_of, line, line), line)
            self.assertEqual(told(self, lower_of, line, line), line)
            self.assertEqual(higher_of(line, list(line)), line)

    def test_apart_and_beside(self):
        one = [(0, 3), (4, 0)]
        self.assertEqual(told(self, higher_of, one, [(4, 3), (9, 0)]), [(0, 3), (9, 0)])
        self.assertEqual(told(self, lower_of, one, [(4, 3), (9, 0)]), [])
        self.assertEqual(told(self, higher_of, [(6, 3), (9, 0)], one), [(0, 3), (4, 0), (6, 3), (9, 0)])
        self.assertEqual(told(self, lower_of, [(6, 3), (9, 0)], one), [])

    def test_heights_that_become_one(self):
        one = [(0, 1), (5, 4), (9, 0)]
        other = [(0, 4), (5, 1), (9, 0)]
        self.assertEqual(told(self, higher_of, one, other), [(0, 4), (9, 0)])
        self.assertEqual(told(self, lower_of, one, other), [(0, 1), (9, 0)])

    def test_eighty_and_eighty(self):
        one = [(2 * place, 2 + place % 2) for place in range(79)] + [(158, 0)]
        other = [(2 * place + 1, 3 - place % 2) for place in range(79)] + [(159, 0)]
        higher = told(self, higher_of, one, other)
        lower = told(self, lower_of, one, other)
        for number in range(-1, 161):
            heights = [([0] + [height for start, height in line if start <= number])[-1]
                       for line in (one, other, higher, lower)]
            self.assertEqual(heights[2:], [max(heights[:2]), min(heights[:2])])
        self.assertTrue(is_skyline(higher) and is_skyline(lower))
        # What is told may be handed on, however long it is.
        self.assertEqual(told(self, higher_of, higher, lower), higher)
        self.assertEqual(told(self, lower_of, higher, lower), lower)

    def test_against_counting(self):
        towns = shapes_of_houses() + list(mixed_houses(40, 8))
        for one, other in zip(towns, towns[7:] + towns[:7]):
            for places, scale in [(NEAR_PLACES, 1), (FAR_PLACES, FAR // 10)]:
                both = [heights_plainly(one), heights_plainly(other)]
                lines = [drawn_line(line_of_heights(heights), places, scale) for heights in both]
                for ask, choose in [(higher_of, max), (lower_of, min)]:
                    wanted = line_of_heights({number: choose(both[0][number], both[1][number]) for number in NUMBERS})
                    self.assertEqual(told(self, ask, *lines), drawn_line(wanted, places, scale), lines)

    def test_each_two_small_ones(self):
        lines = list(all_lines(3, 2))
        for one, other in itertools.product(lines, lines):
            both = [heights_of_line(one), heights_of_line(other)]
            for ask, choose in [(higher_of, max), (lower_of, min)]:
                wanted = line_of_heights({number: choose(both[0][number], both[1][number]) for number in NUMBERS})
                self.assertEqual(ask(one, other), wanted, (one, other))


class TestRefusals(unittest.TestCase):
    def test_no_houses(self):
        for thing in no_houses():
            refused(self, NoHouses, skyline_of, thing)
            for number in [0, None, [], LONG]:
                refused(self, NoHouses, height_at, thing, number)

    def test_no_number(self):
        for houses in [[], TOWN, [(0, 1, 1)] * 40]:
            for thing in things() + no_wholes():
                if type(thing) is not int:
                    refused(self, NoNumber, height_at, houses, thing)

    def test_no_skyline(self):
        for thing in no_skylines():
            for ask in [houses_of, fewest_houses, area_under]:
                refused(self, NoSkyline, ask, thing)
            for ask, line in itertools.product([higher_of, lower_of], [[], TOWN_LINE, None]):
                refused(self, NoSkyline, ask, thing, line)
                refused(self, NoSkyline, ask, line, thing)
            for ask in [higher_of, lower_of]:
                refused(self, NoSkyline, ask, thing, thing)

    def test_a_skyline_is_no_houses_and_houses_no_skyline(self):
        refused(self, NoHouses, skyline_of, TOWN_LINE)
        refused(self, NoSkyline, houses_of, TOWN)


class TestNothingIsKept(unittest.TestCase):
    def test_houses_that_change_between_two_calls(self):
        houses = [(0, 2, 3)]
        first = told(self, skyline_of, houses)
        houses.append((1, 4, 5))
        self.assertEqual(first, [(0, 3), (2, 0)])
        self.assertEqual(told(self, skyline_of, houses), [(0, 3), (1, 5), (4, 0)])
        houses.clear()
        self.assertEqual(told(self, skyline_of, houses), [])

    def test_a_skyline_that_changes_between_two_calls(self):
        line = [(0, 2), (4, 0)]
        told_of = [houses_of(line), fewest_houses(line), higher_of(line, []), lower_of(line, line)]
        line.clear()
        self.assertEqual(told_of, [[(0, 4, 2)], [(0, 4, 2)], [(0, 2), (4, 0)], [(0, 2), (4, 0)]])
        self.assertEqual([houses_of(line), fewest_houses(line), area_under(line)], [[], [], 0])


if __name__ == "__main__":
    unittest.main()
