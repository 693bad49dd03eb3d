"""How much any boxes cover: in all, so often, within a box, and in sets of boxes."""

from boxcover.boxes import need_box, need_heap, shared_box
from boxcover.cells import cells_of, size_together, sizes_by_times


def covered_size(heap):
    need_heap(heap)
    return size_together(cells_of(heap))


def sizes_often(heap):
    need_heap(heap)
    return sizes_by_times(cells_of(heap))


def size_within(heap, box):
    need_heap(heap)
    need_box(heap[0], box)
    shared = [shared_box(mine, box) for mine in heap[1]]
    return size_together(cells_of((heap[0], [part for part in shared if part is not None])))


def sets_among(times, many):
    # Behind each step the count is one of whole sets, so the floor leaves nothing out.
    count = 1
    for step in range(many):
        count = count * (times - step) // (step + 1)
    return count


def sums_of_sets(heap):
    # A spot that so many boxes hold is in as many of the sets as there are sets of these boxes alone: no set has
    # to be made, and there may be far too many to make them.
    sizes = list(enumerate(sizes_often(heap), start=1))
    sums = []
    for many in range(1, len(heap[1]) + 1):
        sums.append(sum([size * sets_among(times, many) for times, size in sizes]))
    return sums
