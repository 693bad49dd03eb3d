"""Boxes on a line: the pieces they cover, the gaps between, and how often."""

from boxcover.boxes import is_whole, need_ways
from boxcover.cells import cells_of, sizes_by_times
from boxcover.errors import NoNumber


def joined(stretches):
    # Stretches that touch have no number between them: they are one.
    pieces = []
    for low, high in stretches:
        if len(pieces) > 0 and pieces[-1][1] == low:
            pieces[-1] = (pieces[-1][0], high)
        else:
            pieces.append((low, high))
    return pieces


def pieces_held(heap, least):
    return joined([cell[0] for cell, numbers in cells_of(heap) if len(numbers) >= least])


def pieces_of(heap):
    need_ways(heap, 1)
    return pieces_held(heap, 1)


def gaps_of(heap):
    pieces = pieces_of(heap)
    return [(before[1], behind[0]) for before, behind in zip(pieces, pieces[1:])]


def covered_length(heap):
    return sum([high - low for low, high in pieces_of(heap)])


def lengths_often(heap):
    need_ways(heap, 1)
    return sizes_by_times(cells_of(heap))


def pieces_at_least(heap, k):
    need_ways(heap, 1)
    if not is_whole(k) or k < 1:
        raise NoNumber("k is a whole number from 1 on")
    return pieces_held(heap, k)
