"""Boxes apart that cover the same as a heap, and what two heaps cover."""

from boxcover.boxes import is_box, need_heap
from boxcover.cells import steps_along
from boxcover.errors import NoWays
from boxcover.plane import cut_boxes, joined_alike


def by_first(first, second):
    return first


def by_first_alone(first, second):
    return first and not second


def by_both(first, second):
    return first and second


def parts_where(wanted, first, second, ways):
    # Boxes of no ways all hold the one spot there is.
    if ways == 0:
        return [()] if wanted(len(first) > 0, len(second) > 0) else []
    steps = []
    for low, high in steps_along(first + second, 0):
        rest = parts_where(wanted, cut_boxes(first, 0, low), cut_boxes(second, 0, low), ways - 1)
        steps.append((low, high, rest))
    # What is left at a number is told by its parting: as long as that stays, the stretch goes on.
    parts = []
    for low, high, rest in joined_alike(steps):
        parts.extend([((low, high),) + box for box in rest])
    return parts


def parting_of(heap):
    need_heap(heap)
    return parts_where(by_first, heap[1], [], heap[0])


def signed_corners(box):
    corners = [((), 1)]
    for low, high in box:
        nearer = [(corner + (low,), sign) for corner, sign in corners]
        corners = nearer + [(corner + (high,), -sign) for corner, sign in corners]
    return corners


def corner_sums(boxes):
    sums = {}
    for box in boxes:
        for corner, sign in signed_corners(box):
            sums[corner] = sums.get(corner, 0) + sign
    return dict([(corner, total) for corner, total in sums.items() if total != 0])


def is_parting(heap, thing):
    need_heap(heap)
    if not isinstance(thing, list) or not all([is_box(heap[0], box) for box in thing]):
        return False
    # How many boxes hold a spot is the sum of the signs of all corners that lie no further than it in any way. So two
    # lists of boxes hold each spot equally often just where their sums are the same at each corner, and a parting
    # holds the covered spots once and no others, as the told one does.
    return corner_sums(thing) == corner_sums(parting_of(heap))


def need_two_heaps(heap, other):
    need_heap(heap)
    need_heap(other)
    if heap[0] != other[0]:
        raise NoWays("two heaps of as many ways are due")


def covers_same(heap, other):
    need_two_heaps(heap, other)
    # What the told parting is hangs on the covered spots alone.
    return parting_of(heap) == parting_of(other)


def covered_without(heap, other):
    need_two_heaps(heap, other)
    return parts_where(by_first_alone, heap[1], other[1], heap[0])


def covered_both(heap, other):
    need_two_heaps(heap, other)
    return parts_where(by_both, heap[1], other[1], heap[0])
