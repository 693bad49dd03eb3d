"""Boxes on a line: the pieces they cover, the gaps between, and how often."""

from boxcover.boxes import is_whole, need_ways
from boxcover.errors import NoNumber


def runs_of(heap):
    # Boxes begin and end at the ends alone, so the first number of a run speaks for all of it.
    stretches = [box[0] for box in heap[1]]
    ends = sorted(set([low for low, high in stretches] + [high for low, high in stretches]))
    runs = []
    for start, stop in zip(ends, ends[1:]):
        times = len([low for low, high in stretches if low <= start < high])
        runs.append((start, stop, times))
    return runs


def joined(stretches):
    # Stretches that touch have no number between them: they are one.
    pieces = []
    for low, high in stretches:
        if len(pieces) > 0 and pieces[-1][1] == low:
            pieces[-1] = (pieces[-1][0], high)
        else:
            pieces.append((low, high))
    return pieces


def pieces_held(heap, least):
    return joined([(low, high) for low, high, times in runs_of(heap) if times >= least])


def pieces_of(heap):
    need_ways(heap, 1)
    return pieces_held(heap, 1)


def gaps_of(heap):
    pieces = pieces_of(heap)
    return [(before[1], behind[0]) for before, behind in zip(pieces, pieces[1:])]


def covered_length(heap):
    return sum([high - low for low, high in pieces_of(heap)])


def lengths_often(heap):
    need_ways(heap, 1)
    runs = runs_of(heap)
    lengths = [0] * max([times for low, high, times in runs], default=0)
    for low, high, times in runs:
        # A run that no box holds is a gap, and has no place in the list.
        if times > 0:
            lengths[times - 1] = lengths[times - 1] + high - low
    return lengths


def pieces_at_least(heap, k):
    need_ways(heap, 1)
    if not is_whole(k) or k < 1:
        raise NoNumber("k is a whole number from 1 on")
    return pieces_held(heap, k)
