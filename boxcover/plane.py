"""Cuts through boxes, and what boxes cover in a plane."""

from boxcover.boxes import is_whole, need_heap, need_ways
from boxcover.cells import cells_of, sizes_by_times, steps_along
from boxcover.errors import NoNumber, NoWays
from boxcover.line import covered_length


def need_way(heap, way):
    # Python would count a way below 0 from the end; there is no such way.
    if not is_whole(way) or way < 0 or way >= heap[0]:
        raise NoNumber("this is no way of the heap")


def cut_boxes(boxes, way, number):
    there = [box for box in boxes if box[way][0] <= number < box[way][1]]
    return [box[:way] + box[way + 1:] for box in there]


def cut_at(heap, way, number):
    need_heap(heap)
    if heap[0] == 1:
        raise NoWays("a heap of two or three ways is due")
    need_way(heap, way)
    if not is_whole(number):
        raise NoNumber("a cut is at a whole number")
    return (heap[0] - 1, cut_boxes(heap[1], way, number))


def joined_alike(steps):
    # Only neighbours are one: of two steps with a gap between them each is as long as can be.
    longest = []
    for low, high, what in steps:
        if len(longest) > 0 and longest[-1][1] == low and longest[-1][2] == what:
            longest[-1] = (longest[-1][0], high, what)
        else:
            longest.append((low, high, what))
    return longest


def lengths_across(heap, way):
    need_ways(heap, 2)
    need_way(heap, way)
    steps = []
    for low, high in steps_along(heap[1], way):
        length = covered_length(cut_at(heap, way, low))
        if length > 0:
            steps.append((low, high, length))
    return joined_alike(steps)


def covered_area(heap):
    return sum([(high - low) * length for low, high, length in lengths_across(heap, 0)])


def areas_often(heap):
    need_ways(heap, 2)
    return sizes_by_times(cells_of(heap))
