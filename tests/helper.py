"""What several tests need: things of every kind, heaps that are none, and ways to ask."""

import copy
import itertools

LIMITS = {1: 20, 2: 10, 3: 6}
UNIT = {1: ((0, 1),), 2: ((0, 1), (0, 1)), 3: ((0, 1), (0, 1), (0, 1))}
FAR = 10 ** 9
LONG = 10 ** 39 + 7


def nested(depth):
    thing = None
    for step in range(depth):
        thing = ([thing], (thing,), {"a": thing})[step % 3]
    return thing


def things():
    """Things of every kind; made anew each time, for some of them can be changed."""
    return [
        None, True, False, 0, 1, 2, 3, 4, -1, -2, LONG, -LONG,
        "", "0", "1", "a", "0..1", "(0, 1)", "\t\n~",
        [], [0], [1, 2], [[]], [()], [(0, 1)], [((0, 1),)], [None], [True],
        (), (0,), (1,), (0, 1), (1, 0), (0, 0), (0, 1, 2), (True,), (False, True), (None,), ("a",),
        ([],), ({},), ((),), ((0, 1),), ((0, 1), (0, 1)), ((0, 1), (0, 1), (0, 1)),
        (1, []), (2, [((0, 1), (0, 1))]), (0, []), (4, []), (1, ()), (1, {}), (1, None),
        {}, {0: 1}, {"a": []}, {(0, 1): True}, {1: 20, 2: 10, 3: 6},
        nested(9), nested(10),
    ]


def no_stretches():
    return [
        (0, 0), (1, 0), (0,), (), (0, 1, 2), (False, 1), (0, True), (False, True), [0, 1], {0: 1}, "01",
        ("0", "1"), (0, "1"), (None, 1), (0, None), ((0,), (1,)), ([0], [1]), ({}, {}), None, True, 0, 1,
        (LONG, LONG), (0, -LONG), (0, [1]), ((0, 1), 1), (0, {}), ({}, 1),
    ]


def no_boxes(ways):
    """Things that are no box of so many ways, those wrong deep within among them."""
    wrong = []
    for place, bad in itertools.product(range(ways), no_stretches()):
        parts = list(UNIT[ways])
        parts[place] = bad
        wrong.append(tuple(parts))
    wrong.append(list(UNIT[ways]))
    wrong.append(dict(enumerate(UNIT[ways])))
    wrong.append((UNIT[ways],))
    wrong.append(UNIT[ways] + ((0, 1),))
    wrong.append(UNIT[ways][1:])
    return wrong + [thing for thing in things() if thing != UNIT[ways]]


def no_heaps():
    wrong = [thing for thing in things() if thing not in [(1, []), (2, [UNIT[2]])]]
    for ways, unit in UNIT.items():
        wrong.append([ways, [unit]])
        wrong.append((ways, (unit,)))
        wrong.append((ways, ()))
        wrong.append((ways, {0: unit}))
        wrong.append((ways, unit))
        wrong.append((ways, None))
        wrong.append((ways, "-"))
        wrong.append((ways, [unit], []))
        wrong.append((ways,))
        wrong.append({0: ways, 1: [unit]})
        wrong.append((ways % 3 + 1, [unit]))
        wrong.append((str(ways), [unit]))
        wrong.append(([ways], [unit]))
        wrong.append(((ways,), [unit]))
        wrong.append((ways, [unit] * (LIMITS[ways] + 1)))
        for bad in no_boxes(ways):
            wrong.append((ways, [bad]))
            wrong.append((ways, [unit, bad]))
            wrong.append((ways, [bad, unit]))
    wrong.append((True, []))
    wrong.append((True, [UNIT[1]]))
    wrong.append((False, []))
    wrong.append((0, [()]))
    wrong.append((4, [((0, 1),) * 4]))
    wrong.append((-1, [UNIT[1]]))
    return wrong


def told(test, ask, *asked):
    """The answer, made sure of: the same twice, nothing handed in changed, and the list the asker's own."""
    before = copy.deepcopy(asked)
    answer = ask(*asked)
    kept = copy.deepcopy(answer)
    again = ask(*asked)
    test.assertEqual(repr(asked), repr(before))
    test.assertEqual(repr(again), repr(kept))
    if isinstance(answer, list):
        test.assertIsNot(answer, again)
        answer.clear()
        answer.append("changed")
        test.assertEqual(repr(again), repr(kept))
        test.assertEqual(repr(asked), repr(before))
        again = ask(*asked)
        test.assertEqual(repr(again), repr(kept))
    return again


def refused(test, wanted, ask, *asked):
    """The refusal is of the very class wanted, of no other, and nothing handed in is changed."""
    before = copy.deepcopy(asked)
    for _ in range(2):
        try:
            answer = ask(*asked)
        except Exception as error:
            test.assertIs(type(error), wanted, f"asked {asked!r}")
        else:
            test.fail(f"asked {asked!r}, answered {answer!r}, wanted {wanted.__name__}")
        test.assertEqual(repr(asked), repr(before))


def all_stretches(low, high):
    return list(itertools.combinations(range(low, high + 1), 2))


def spots(ways, low, high):
    return itertools.product(range(low, high), repeat=ways)


def holds_plainly(box, spot):
    return all(number in range(*stretch) for stretch, number in zip(box, spot))
