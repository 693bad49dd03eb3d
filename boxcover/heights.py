"""Houses over a line and their skylines, there and back."""

from boxcover.boxes import is_whole
from boxcover.errors import NoHouses, NoNumber, NoSkyline


def are_wholes(thing, many):
    return isinstance(thing, tuple) and len(thing) == many and all([is_whole(part) for part in thing])


def is_house(thing):
    return are_wholes(thing, 3) and thing[0] < thing[1] and thing[2] >= 1


def are_houses(thing):
    return isinstance(thing, list) and all([is_house(part) for part in thing])


def is_skyline(thing):
    if not isinstance(thing, list) or not all([are_wholes(part, 2) and part[1] >= 0 for part in thing]):
        return False
    # Of no houses there is nothing to begin or to end.
    if len(thing) == 0:
        return True
    if thing[0][1] == 0 or thing[-1][1] != 0:
        return False
    return all([before[0] < behind[0] and before[1] != behind[1] for before, behind in zip(thing, thing[1:])])


def need_houses(houses):
    if not are_houses(houses):
        raise NoHouses("these are no houses")


def need_skyline(skyline):
    if not is_skyline(skyline):
        raise NoSkyline("this is no skyline")


def tallest_at(houses, number):
    return max([height for low, high, height in houses if low <= number < high], default=0)


def height_at(houses, number):
    need_houses(houses)
    if not is_whole(number):
        raise NoNumber("a height is at a whole number")
    return tallest_at(houses, number)


def changes_alone(heights):
    # Ahead of the first number the height is 0, so a 0 there is no change either.
    skyline = []
    height_ahead = 0
    for number, height in heights:
        if height != height_ahead:
            skyline.append((number, height))
        height_ahead = height
    return skyline


def skyline_of(houses):
    need_houses(houses)
    # The height changes nowhere but where a house begins or ends.
    ends = sorted(set([house[0] for house in houses] + [house[1] for house in houses]))
    return changes_alone([(number, tallest_at(houses, number)) for number in ends])


def standing_under(skyline):
    steps = [(before[0], behind[0], before[1]) for before, behind in zip(skyline, skyline[1:])]
    return [step for step in steps if step[2] > 0]


def houses_of(skyline):
    need_skyline(skyline)
    return standing_under(skyline)


def widest_at(skyline, place):
    # As far to either side as the skyline is no lower; it ends with 0, so both walks end.
    height = skyline[place][1]
    first = place
    while first > 0 and skyline[first - 1][1] >= height:
        first = first - 1
    behind = place
    while skyline[behind][1] >= height:
        behind = behind + 1
    return (skyline[first][0], skyline[behind][0], height)


def fewest_houses(skyline):
    need_skyline(skyline)
    # Whatever is of some height needs a house of just this height, and none of it reaches past where the skyline is
    # lower. So the widest houses, each once, can't be fewer.
    places = [place for place, corner in enumerate(skyline) if corner[1] > 0]
    return sorted(set([widest_at(skyline, place) for place in places]))


def area_under(skyline):
    return sum([(high - low) * height for low, high, height in houses_of(skyline)])


def heights_of_both(one, other):
    need_skyline(one)
    need_skyline(other)
    mine = standing_under(one)
    yours = standing_under(other)
    numbers = sorted(set([number for number, height in one + other]))
    return [(number, tallest_at(mine, number), tallest_at(yours, number)) for number in numbers]


def higher_of(one, other):
    return changes_alone([(number, max(mine, yours)) for number, mine, yours in heights_of_both(one, other)])


def lower_of(one, other):
    return changes_alone([(number, min(mine, yours)) for number, mine, yours in heights_of_both(one, other)])
