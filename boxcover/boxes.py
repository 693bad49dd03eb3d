"""Boxes and heaps: what they are, what boxes hold, share and span."""

from boxcover.errors import NoBox, NoHeap, NoSpot, NoWays

MOST_BOXES = {1: 20, 2: 10, 3: 6}


def is_whole(thing):
    # Python counts True and False among the ints; here they are no numbers.
    return isinstance(thing, int) and not isinstance(thing, bool)


def are_ways(thing):
    # is_whole goes first: a list can't be looked up in a dict, and True would be found as 1.
    return is_whole(thing) and thing in MOST_BOXES


def is_stretch(thing):
    if not isinstance(thing, tuple) or len(thing) != 2:
        return False
    return is_whole(thing[0]) and is_whole(thing[1]) and thing[0] < thing[1]


def is_box(ways, thing):
    if not are_ways(ways) or not isinstance(thing, tuple) or len(thing) != ways:
        return False
    return all([is_stretch(part) for part in thing])


def is_heap(thing):
    if not isinstance(thing, tuple) or len(thing) != 2:
        return False
    ways = thing[0]
    boxes = thing[1]
    if not are_ways(ways) or not isinstance(boxes, list) or len(boxes) > MOST_BOXES[ways]:
        return False
    return all([is_box(ways, box) for box in boxes])


def need_heap(heap):
    if not is_heap(heap):
        raise NoHeap("this is no heap")


def need_ways(heap, ways):
    # What is no heap has no ways to be asked for, so NoHeap goes ahead of NoWays.
    need_heap(heap)
    if heap[0] != ways:
        raise NoWays(f"a heap of {ways} ways is due")


def need_spot(heap, spot):
    if not isinstance(spot, tuple) or len(spot) != heap[0] or not all([is_whole(number) for number in spot]):
        raise NoSpot("this is no spot of the heap's ways")


def need_box(ways, box):
    if not is_box(ways, box):
        raise NoBox("this is no box of the heap's ways")


def numbered_box(heap, number):
    # Python would count a number below 0 from the end; no box has such a number.
    if not is_whole(number) or number < 0 or number >= len(heap[1]):
        raise NoBox("this is no box's number")
    return heap[1][number]


def box_size(box):
    size = 1
    for low, high in box:
        size = size * (high - low)
    return size


def holds(box, spot):
    return all([stretch[0] <= number < stretch[1] for stretch, number in zip(box, spot)])


def size_of(heap, number):
    need_heap(heap)
    return box_size(numbered_box(heap, number))


def boxes_at(heap, spot):
    need_heap(heap)
    need_spot(heap, spot)
    return [number for number, box in enumerate(heap[1]) if holds(box, spot)]


def how_often(heap, spot):
    return len(boxes_at(heap, spot))


def shared_box(one, other):
    shared = [(max(mine[0], yours[0]), min(mine[1], yours[1])) for mine, yours in zip(one, other)]
    # Boxes that share nothing in one way share no spot, however much they share in the others.
    if all([is_stretch(part) for part in shared]):
        return tuple(shared)
    return None


def common_of(heap, one, other):
    need_heap(heap)
    return shared_box(numbered_box(heap, one), numbered_box(heap, other))


def span_along(boxes, way):
    return (min([box[way][0] for box in boxes]), max([box[way][1] for box in boxes]))


def span_of(heap):
    need_heap(heap)
    if len(heap[1]) == 0:
        return None
    return tuple([span_along(heap[1], way) for way in range(heap[0])])
