"""Papers that show how much is covered and how often, and their checker."""

from boxcover.boxes import box_size, is_box, is_whole, need_heap
from boxcover.cells import cells_of, size_together, sizes_by_times


def are_numbers(thing, many):
    if not isinstance(thing, list) or len(thing) == 0:
        return False
    if not all([is_whole(number) and 0 <= number < many for number in thing]):
        return False
    return all([before < behind for before, behind in zip(thing, thing[1:])])


def is_row(heap, thing):
    if not isinstance(thing, tuple) or len(thing) != 2:
        return False
    return is_box(heap[0], thing[0]) and are_numbers(thing[1], len(heap[1]))


def lies_in(box, outer):
    return all([around[0] <= part[0] and part[1] <= around[1] for part, around in zip(box, outer)])


def are_apart(one, other):
    for mine, yours in zip(one, other):
        if mine[1] <= yours[0] or yours[1] <= mine[0]:
            return True
    return False


def each_two_apart(boxes):
    # In the order of their lows, once one begins no sooner than a box has ended, so do all behind it.
    ordered = sorted(boxes)
    for place, box in enumerate(ordered):
        behind = place + 1
        while behind < len(ordered) and ordered[behind][0][0] < box[0][1]:
            if not are_apart(box, ordered[behind]):
                return False
            behind = behind + 1
    return True


def sizes_come_to(heap, rows):
    sizes = [0] * len(heap[1])
    for box, numbers in rows:
        for number in numbers:
            sizes[number] = sizes[number] + box_size(box)
    return sizes == [box_size(box) for box in heap[1]]


def is_paper(heap, thing):
    if not isinstance(thing, list) or not all([is_row(heap, row) for row in thing]):
        return False
    for box, numbers in thing:
        if not all([lies_in(box, heap[1][number]) for number in numbers]):
            return False
    return sizes_come_to(heap, thing) and each_two_apart([box for box, numbers in thing])


def paper_says(heap, thing):
    need_heap(heap)
    if not is_paper(heap, thing):
        return None
    return (size_together(thing), sizes_by_times(thing))


def paper_of(heap):
    need_heap(heap)
    return sorted(cells_of(heap))
