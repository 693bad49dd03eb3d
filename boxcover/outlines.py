"""Outlines of what boxes cover in a plane, and its pieces and holes."""

from boxcover.boxes import holds, need_ways
from boxcover.cells import ends_along

# The ends of all boxes cut the plane into places. A place (0, 0) is at the first end of either way, and so on: what is
# so of one spot of a place is so of all, and there are few places, however far apart the numbers lie.

# Each heading along the edge of a place that lies to its left, with the step to the corner that it starts from.
HEADINGS = (((1, 0), (0, 0)), ((0, 1), (1, 0)), ((-1, 0), (1, 1)), ((0, -1), (0, 1)))
BESIDE = ((1, 0), (0, 1), (-1, 0), (0, -1))
AROUND = ((1, 0), (1, 1), (0, 1), (-1, 1), (-1, 0), (-1, -1), (0, -1), (1, -1))
OUTSIDE = (-1, -1)


def ends_of(heap):
    need_ways(heap, 2)
    return (ends_along(heap[1], 0), ends_along(heap[1], 1))


def covered_places(heap, ends):
    covered = {}
    for across, first in enumerate(ends[0]):
        for along, second in enumerate(ends[1]):
            if any([holds(box, (first, second)) for box in heap[1]]):
                covered[(across, along)] = True
    return covered


def open_places(covered, ends):
    # From -1 to the last end there is a rim of places around, by which all that is outside hangs together.
    found = []
    for across in range(-1, len(ends[0])):
        row = [(across, along) for along in range(-1, len(ends[1]))]
        found.extend([place for place in row if place not in covered])
    return found


def moved(place, step):
    return (place[0] + step[0], place[1] + step[1])


def turned_left(heading):
    return (-heading[1], heading[0])


def turned_right(heading):
    return (heading[1], -heading[0])


def edges_of(covered):
    edges = {}
    for place in covered:
        for heading, start in HEADINGS:
            if moved(place, turned_right(heading)) not in covered:
                edges[(moved(place, start), heading)] = True
    return edges


def edge_behind(edges, edge):
    # Where covered places meet across, edges go on to the left and to the right: the left goes first.
    corner = moved(edge[0], edge[1])
    for heading in [turned_left(edge[1]), edge[1]]:
        if (corner, heading) in edges:
            return (corner, heading)
    return (corner, turned_right(edge[1]))


def path_from(edges, first):
    path = [first]
    edge = edge_behind(edges, first)
    while edge != first:
        path.append(edge)
        edge = edge_behind(edges, edge)
    return path


def paths_of(edges):
    # Edges are in the order of their corners, so the first one of a path that is met starts from its least corner.
    paths = []
    walked = {}
    for first in sorted(edges):
        if first not in walked:
            path = path_from(edges, first)
            walked.update([(edge, True) for edge in path])
            paths.append(path)
    return paths


def turns_of(path):
    return [edge[0] for ahead, edge in zip(path[-1:] + path[:-1], path) if ahead[1] != edge[1]]


def outline_of(heap):
    ends = ends_of(heap)
    outline = []
    for path in paths_of(edges_of(covered_places(heap, ends))):
        outline.append([(ends[0][across], ends[1][along]) for across, along in turns_of(path)])
    return sorted(outline)


def round_length(corners):
    steps = list(zip(corners, corners[1:] + corners[:1]))
    return sum([abs(there[0] - here[0]) + abs(there[1] - here[1]) for here, there in steps])


def outline_length(heap):
    return sum([round_length(corners) for corners in outline_of(heap)])


def taken_out(left, first, steps):
    left.pop(first)
    group = [first]
    looked_from = 0
    while looked_from < len(group):
        for step in steps:
            near = moved(group[looked_from], step)
            if near in left:
                left.pop(near)
                group.append(near)
        looked_from = looked_from + 1
    return group


def groups_of(places, steps):
    left = dict([(place, True) for place in places])
    groups = []
    for place in places:
        if place in left:
            groups.append(taken_out(left, place, steps))
    return groups


def place_size(ends, place):
    width = ends[0][place[0] + 1] - ends[0][place[0]]
    return width * (ends[1][place[1] + 1] - ends[1][place[1]])


def group_sizes(ends, groups):
    return sorted([sum([place_size(ends, place) for place in group]) for group in groups])


def piece_sizes(heap):
    ends = ends_of(heap)
    return group_sizes(ends, groups_of(list(covered_places(heap, ends)), BESIDE))


def hole_sizes(heap):
    ends = ends_of(heap)
    groups = groups_of(open_places(covered_places(heap, ends), ends), AROUND)
    return group_sizes(ends, [group for group in groups if OUTSIDE not in group])
