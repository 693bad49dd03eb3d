"""Whose the covered spots are: each box's own, the most held, and which boxes would do."""

from boxcover.boxes import box_size, need_heap
from boxcover.cells import cells_of
from boxcover.errors import TooMany

MOST_TO_CHOOSE_FROM = 10


def own_sizes(heap):
    need_heap(heap)
    sizes = [0] * len(heap[1])
    for cell, numbers in cells_of(heap):
        if len(numbers) == 1:
            sizes[numbers[0]] = sizes[numbers[0]] + box_size(cell)
    return sizes


def most_often(heap):
    need_heap(heap)
    most = None
    for cell, numbers in cells_of(heap):
        # Cells stand in the order of their first spots, so a later one must be held more often to go ahead.
        if most is None or len(numbers) > most[0]:
            most = (len(numbers), tuple([low for low, high in cell]))
    return most


def needless(heap):
    return [number for number, size in enumerate(own_sizes(heap)) if size == 0]


def meets_each(groups, chosen):
    for numbers in groups:
        if not any([number in chosen for number in numbers]):
            return False
    return True


def longer_by_one(choices, many):
    # Rising lists in order, each with each number behind its last one, are in order again.
    longer = []
    for chosen in choices:
        start = chosen[-1] + 1 if len(chosen) > 0 else 0
        longer.extend([chosen + [number] for number in range(start, many)])
    return longer


def fewest_same(heap):
    need_heap(heap)
    many = len(heap[1])
    if many > MOST_TO_CHOOSE_FROM:
        raise TooMany("the fewest are told of at most ten boxes")
    # Chosen boxes cover the same where each cell has one of them among those that hold it.
    groups = sorted(set([tuple(numbers) for cell, numbers in cells_of(heap)]))
    choices = [[]]
    while True:
        for chosen in choices:
            if meets_each(groups, chosen):
                return chosen
        choices = longer_by_one(choices, many)
