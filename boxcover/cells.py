"""The cells into which the lows and highs of boxes cut what the boxes cover."""

from boxcover.boxes import box_size


def ends_along(boxes, way):
    return sorted(set([box[way][0] for box in boxes] + [box[way][1] for box in boxes]))


def steps_along(boxes, way):
    # Boxes begin and end at these ends alone, so the first number of a step speaks for all of it.
    ends = ends_along(boxes, way)
    return list(zip(ends, ends[1:]))


def cells_from(boxes, numbers, way, ways):
    # Where no box is left nothing is covered, and there is no cell.
    if len(numbers) == 0:
        return []
    if way == ways:
        return [((), numbers)]
    cells = []
    for low, high in steps_along([boxes[number] for number in numbers], way):
        there = [number for number in numbers if boxes[number][way][0] <= low < boxes[number][way][1]]
        for rest, held_by in cells_from(boxes, there, way + 1, ways):
            cells.append((((low, high),) + rest, held_by))
    return cells


def cells_of(heap):
    # A cell is a box with the numbers of all boxes that hold it. No two cells share a spot, and they stand in the
    # order of their first spots.
    return cells_from(heap[1], list(range(len(heap[1]))), 0, heap[0])


def size_together(cells):
    return sum([box_size(cell) for cell, numbers in cells])


def sizes_by_times(cells):
    sizes = [0] * max([len(numbers) for cell, numbers in cells], default=0)
    for cell, numbers in cells:
        times = len(numbers)
        sizes[times - 1] = sizes[times - 1] + box_size(cell)
    return sizes
