"""Heaps, spots, houses and skylines written as texts, and read back."""

from boxcover.boxes import is_box, is_heap, is_whole, need_heap
from boxcover.errors import NoSpot, NoText
from boxcover.heights import are_houses, is_skyline, need_houses, need_skyline

FIGURES = "0123456789"
NONE_WRITTEN = "-"


def listed(words):
    return " ".join(words) if len(words) > 0 else NONE_WRITTEN


def numbers_text(numbers):
    return ",".join([str(number) for number in numbers])


def stretch_text(stretch):
    low = stretch[0]
    high = stretch[1]
    return f"{low}..{high}"


def box_text(box):
    return ",".join([stretch_text(stretch) for stretch in box])


def heap_text(heap):
    need_heap(heap)
    return " ".join([str(heap[0])] + [box_text(box) for box in heap[1]])


def are_spot_numbers(thing):
    return isinstance(thing, tuple) and 1 <= len(thing) <= 3 and all([is_whole(number) for number in thing])


def spot_text(spot):
    if not are_spot_numbers(spot):
        raise NoSpot("a spot is a tuple of one to three whole numbers")
    return numbers_text(spot)


def houses_text(houses):
    need_houses(houses)
    return listed([f"{low}..{high}^{height}" for low, high, height in houses])


def skyline_text(skyline):
    need_skyline(skyline)
    return listed([f"{number}^{height}" for number, height in skyline])


def writes_number(text):
    figures = text[1:] if text.startswith("-") else text
    if len(figures) == 0 or not all([sign in FIGURES for sign in figures]):
        return False
    # No 0 stands ahead of other figures, and 0 itself isn't below 0.
    return text == "0" or not figures.startswith("0")


def read_number(text):
    if not writes_number(text):
        raise NoText("this writes no number")
    return int(text)


def halves_of(text, sign):
    halves = text.split(sign)
    if len(halves) != 2:
        raise NoText("two parts are due")
    return halves


def read_stretch(text):
    return tuple([read_number(half) for half in halves_of(text, "..")])


def read_house(text):
    halves = halves_of(text, "^")
    return read_stretch(halves[0]) + (read_number(halves[1]),)


def read_corner(text):
    return tuple([read_number(half) for half in halves_of(text, "^")])


def need_text(text):
    if not isinstance(text, str):
        raise NoText("this is no text")


def read_box(text):
    box = tuple([read_stretch(part) for part in text.split(",")])
    if not is_box(len(box), box):
        raise NoText("this writes no box")
    return box


def read_heap(text):
    need_text(text)
    words = text.split(" ")
    heap = (read_number(words[0]), [read_box(word) for word in words[1:]])
    if not is_heap(heap):
        raise NoText("this writes no heap")
    return heap


def read_spot(text):
    need_text(text)
    spot = tuple([read_number(part) for part in text.split(",")])
    if not are_spot_numbers(spot):
        raise NoText("this writes no spot")
    return spot


def words_of(text):
    need_text(text)
    return [] if text == NONE_WRITTEN else text.split(" ")


def read_houses(text):
    houses = [read_house(word) for word in words_of(text)]
    if not are_houses(houses):
        raise NoText("this writes no houses")
    return houses


def read_skyline(text):
    skyline = [read_corner(word) for word in words_of(text)]
    if not is_skyline(skyline):
        raise NoText("this writes no skyline")
    return skyline
