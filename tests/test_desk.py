import itertools
import random
import re
import unittest

from boxcover.desk import Desk
from boxcover.errors import NoAsk, NoBox, NoDeed, NoName, NoSpot, NoText, NoWays, TooMany
from boxcover.heights import fewest_houses, skyline_of
from boxcover.line import gaps_of, pieces_of
from boxcover.outlines import hole_sizes, outline_length, outline_of
from boxcover.parts import parting_of
from boxcover.sizes import covered_size
from boxcover.whose import needless, own_sizes
from tests.helper import (
    FAR, LIMITS, NEAR_PLACES, PLACES_HIGH, PLACES_LOW, UNIT, Counted, all_stretches, box_plainly, changed_by_one_sign,
    figures, houses_plainly, refused, ring, skyline_plainly, spot_plainly, things, told,
)

ASKS = ["names", "size", "often", "most", "own", "needless", "parting"]
OF_ONE_WAY = ["pieces", "gaps"]
OF_TWO_WAYS = ["rounds", "holes"]
ALONE = ASKS + OF_ONE_WAY + OF_TWO_WAYS + ["back"]
NAMES = ["a", "b", "ab", "zzzzzzzz", "abcdefgh", "c", "d", "e", "f", "g", "h", "i", "j", "k", "l", "m", "n", "o", "p",
         "q", "r", "s"]
BOXES_WRITTEN = {1: "0..1", 2: "0..1,0..1", 3: "0..1,0..1,0..1"}


def box_written(box):
    return ",".join(figures(low) + ".." + figures(high) for low, high in box)


def listed(words):
    return " ".join(words) if words else "-"


class PlainDesk:
    """What the desk is to answer: a text, or the class of the refusal."""

    def __init__(self):
        self.begin(1)

    def begin(self, ways):
        self.ways = ways
        self.boxes = {}
        self.ahead = []
        return "ok"

    def heap(self):
        return (self.ways, [self.boxes[name] for name in sorted(self.boxes)])

    def size(self, boxes):
        """By counting, where the numbers are near."""
        heap = (self.ways, list(boxes.values()))
        near = all(PLACES_LOW <= low and high <= PLACES_HIGH for box in heap[1] for low, high in box)
        return Counted(heap, NEAR_PLACES).covered() if near else covered_size(heap)

    def change(self, boxes):
        grown = self.size(boxes) - self.size(self.boxes)
        self.ahead.append(self.boxes)
        self.boxes = boxes
        return figures(grown)

    def answer(self, line):
        if not isinstance(line, str) or "\n" in line:
            return NoAsk
        if line in ALONE:
            return self.alone(line)
        found = re.fullmatch(r"(ways|put|take|at|sky|fewest) (.*)", line)
        return getattr(self, "ask_" + found[1])(found[2]) if found else NoAsk

    def alone(self, head):
        if head == "back":
            if not self.ahead:
                return NoDeed
            boxes = self.ahead.pop()
            grown = self.size(boxes) - self.size(self.boxes)
            self.boxes = boxes
            return figures(grown)
        if self.ways != 1 and head in OF_ONE_WAY or self.ways != 2 and head in OF_TWO_WAYS:
            return NoWays
        return self.tell(head, self.heap(), sorted(self.boxes))

    def tell(self, head, heap, names):
        one = Counted(heap, NEAR_PLACES)
        if head == "most":
            often = one.often()
            first = min((spot for spot, held in one.holders.items() if len(held) == len(often)), default=())
            return figures(len(often)) + " " + ",".join(map(figures, first)) if often else "-"
        if head == "rounds":
            return figures(len(outline_of(heap))) + " " + figures(outline_length(heap))
        lists = {
            "names": lambda: names, "size": lambda: [figures(one.covered())], "often": lambda: map(figures,
            one.often()), "own": lambda: [name + " " + figures(size) for name, size in zip(names, own_sizes(heap))],
            "needless": lambda: [names[number] for number in needless(heap)],
            "parting": lambda: map(box_written, parting_of(heap)),
            "pieces": lambda: [box_written([piece]) for piece in pieces_of(heap)],
            "gaps": lambda: [box_written([gap]) for gap in gaps_of(heap)],
            "holes": lambda: map(figures, hole_sizes(heap)),
        }
        return listed(list(lists[head]()))

    def ask_ways(self, rest):
        return self.begin(int(rest)) if rest in ("1", "2", "3") else NoAsk

    def ask_put(self, rest):
        found = re.fullmatch(r"([a-z]{1,8}) (.*)", rest)
        box = box_plainly(found[2]) if found else None
        if box is None:
            return NoAsk
        if found[1] in self.boxes:
            return NoName
        if len(box) != self.ways:
            return NoBox
        if len(self.boxes) == LIMITS[self.ways]:
            return TooMany
        return self.change({**self.boxes, found[1]: box})

    def ask_take(self, rest):
        if not re.fullmatch("[a-z]{1,8}", rest):
            return NoAsk
        if rest not in self.boxes:
            return NoName
        return self.change({name: box for name, box in self.boxes.items() if name != rest})

    def ask_at(self, rest):
        spot = spot_plainly(rest)
        if spot is None:
            return NoAsk
        if len(spot) != self.ways:
            return NoSpot
        return figures(len(Counted(self.heap(), NEAR_PLACES).holders.get(spot, [])))

    def ask_sky(self, rest):
        houses = houses_plainly(rest)
        if houses is None:
            return NoText
        return listed([figures(number) + "^" + figures(height) for number, height in skyline_of(houses)])

    def ask_fewest(self, rest):
        line = skyline_plainly(rest)
        if line is None:
            return NoText
        return listed([box_written([house[:2]]) + "^" + figures(house[2]) for house in fewest_houses(line)])


class DeskTest(unittest.TestCase):
    def say(self, desk, *lines):
        answers = [desk.answer(line) for line in lines]
        for answer in answers:
            self.assertIs(type(answer), str)
        return answers

    def state(self, desk):
        """All that a desk tells of its Kept, without a deed."""
        answers = self.say(desk, *ASKS)
        for line in OF_ONE_WAY + OF_TWO_WAYS:
            try:
                answers.append(desk.answer(line))
            except NoWays:
                answers.append("NoWays")
        return answers

    def check_refused(self, desk, wanted, *lines):
        before = self.state(desk)
        for line in lines:
            refused(self, wanted, desk.answer, line)
        self.assertEqual(self.state(desk), before)

    def filled(self, ways):
        """A desk with a box taken, so that each line has something to tell."""
        desk = Desk()
        desk.answer(f"ways {ways}")
        for name, box in [("a", "0..3"), ("b", "2..5"), ("c", "7..9")]:
            desk.answer(f"put {name} " + ",".join([box] * ways))
        desk.answer("take b")
        return desk


class TestEachLine(DeskTest):
    def test_at_first_of_one_way_with_none(self):
        self.assertEqual(self.say(Desk(), *ASKS, *OF_ONE_WAY), ["-", "0", "-", "-", "-", "-", "-", "-", "-"])
        self.assertEqual(self.say(Desk(), "at 0", "put a 0..1", "at 0"), ["0", "1", "1"])

    def test_where_there_is_none_to_be_told(self):
        for ways in UNIT:
            desk = Desk()
            self.assertEqual(desk.answer(f"ways {ways}"), "ok")
            self.assertEqual(self.say(desk, *ASKS), ["-", "0", "-", "-", "-", "-", "-"])
            self.assertEqual(desk.answer("at " + ",".join(["0"] * ways)), "0")
        self.assertEqual(self.say(desk, "ways 2", "rounds", "holes"), ["ok", "0 0", "-"])
        self.assertEqual(self.say(desk, "ways 1", "pieces", "gaps"), ["ok", "-", "-"])
        self.assertEqual(self.say(desk, "sky -", "fewest -"), ["-", "-"])
        # One box leaves no gap, no hole and none that isn't needed.
        self.assertEqual(self.say(desk, "put a 0..4", "gaps", "needless", "pieces"), ["4", "-", "-", "0..4"])
        self.assertEqual(self.say(desk, "ways 2", "put a 0..4,0..1", "holes", "rounds"), ["ok", "4", "-", "1 10"])

    def test_on_a_line(self):
        desk = Desk()
        self.assertEqual(self.say(desk, "put b 0..5", "put a 3..9", "put c 12..14", "put d 1..4"), ["5", "4", "2", "0"])
        self.assertEqual(self.say(desk, *ASKS), [
            "a b c d", "11", "7 3 1", "3 3", "a 4 b 1 c 2 d 0", "d", "0..9 12..14"])
        self.assertEqual(self.say(desk, "pieces", "gaps"), ["0..9 12..14", "9..12"])
        self.assertEqual(self.say(desk, "at -1", "at 0", "at 3", "at 13", "at 14"), ["0", "1", "3", "1", "0"])
        self.assertEqual(self.say(desk, "take b", "take a", "names", "size"), ["-1", "-5", "c d", "5"])
        self.assertEqual(self.say(desk, "back", "back", "back", "back", "back", "back"),
                         ["5", "1", "0", "-2", "-4", "-5"])
        refused(self, NoDeed, desk.answer, "back")

    def test_in_a_plane(self):
        desk = Desk()
        desk.answer("ways 2")
        for name, box in zip(NAMES, ring(-1, 2)):
            desk.answer("put " + name + " " + box_written(box))
        self.assertEqual(self.say(desk, *ASKS), [
            "a ab b zzzzzzzz", "8", "4 4", "2 -1,-1", "a 1 ab 1 b 1 zzzzzzzz 1", "-",
            "-1..0,-1..2 0..1,-1..0 0..1,1..2 1..2,-1..2"])
        self.assertEqual(self.say(desk, "rounds", "holes", "at 0,0", "at -1,-1"), ["2 16", "1", "0", "2"])
        self.assertEqual(self.say(desk, "put x 0..1,0..1", "rounds", "holes"), ["1", "1 12", "-"])

    def test_in_space(self):
        desk = Desk()
        lines = ["ways 3", "put one 0..2,0..2,0..2", "put two 1..3,1..3,1..3", "put all 0..3,0..3,0..3"]
        self.assertEqual(self.say(desk, *lines), ["ok", "8", "7", "12"])
        self.assertEqual(self.say(desk, *ASKS), [
            "all one two", "27", "12 14 1", "3 1,1,1", "all 12 one 0 two 0", "one two", "0..3,0..3,0..3"])
        self.assertEqual(self.say(desk, "at 2,2,2", "at -1,0,0", "take all"), ["2", "0", "-12"])

    def test_houses_and_skylines(self):
        desk = Desk()
        self.assertEqual(self.say(desk, "sky 0..6^3 4..9^5 2..3^8"), ["0^3 2^8 3^3 4^5 9^0"])
        self.assertEqual(self.say(desk, "fewest 0^3 2^8 3^3 4^5 9^0"), ["0..9^3 2..3^8 4..9^5"])
        self.assertEqual(self.say(desk, "sky -5..-2^1", "fewest -5^1 -2^0"), ["-5^1 -2^0", "-5..-2^1"])

    def test_ways_begin_anew(self):
        for ways, other in itertools.product(UNIT, UNIT):
            desk = self.filled(ways)
            self.assertEqual(desk.answer(f"ways {other}"), "ok")
            self.assertEqual(self.say(desk, *ASKS), ["-", "0", "-", "-", "-", "-", "-"])
            refused(self, NoDeed, desk.answer, "back")
            self.assertEqual(desk.answer("put a " + BOXES_WRITTEN[other]), "1")

    def test_far_out(self):
        desk = Desk()
        self.assertEqual(self.say(desk, f"put a {-FAR}..{FAR}", f"at {FAR - 1}", f"at {FAR}", "most"),
                         [str(2 * FAR), "1", "0", f"1 {-FAR}"])
        size = str((2 * FAR) ** 3)
        whole = ",".join([f"{-FAR}..{FAR}"] * 3)
        self.assertEqual(self.say(desk, "ways 3", "put a " + whole, "size", "own", "take a", "back"),
                         ["ok", size, size, "a " + size, "-" + size, size])

    def test_as_many_as_a_heap_may_have(self):
        for ways, most in LIMITS.items():
            desk = Desk()
            desk.answer(f"ways {ways}")
            for name in NAMES[:most]:
                self.assertEqual(desk.answer("put " + name + " " + BOXES_WRITTEN[ways]), "1" if name == "a" else "0")
            self.check_refused(desk, TooMany, "put " + NAMES[most] + " " + BOXES_WRITTEN[ways])
            self.assertEqual(desk.answer("names"), " ".join(sorted(NAMES[:most])))
            self.assertEqual(desk.answer("needless"), " ".join(sorted(NAMES[:most])))
            self.assertEqual(desk.answer("often"), "0 " * (most - 1) + "1")

    def test_asked_again_the_same(self):
        for ways in UNIT:
            desk = self.filled(ways)
            for line in ASKS + ["at " + ",".join(["1"] * ways), "sky 0..1^1", "fewest 0^1 1^0"]:
                told(self, desk.answer, line)

    def test_two_desks_side_by_side(self):
        one = Desk()
        other = Desk()
        self.say(one, "put a 0..4", "put b 2..9")
        self.assertEqual(self.say(other, "names", "size"), ["-", "0"])
        refused(self, NoDeed, other.answer, "back")
        self.say(other, "ways 2", "put a 0..1,0..1")
        self.assertEqual(self.say(one, "names", "size", "back"), ["a b", "9", "-5"])
        self.assertEqual(self.say(other, "names", "size"), ["a", "1"])


class TestAgainstPlain(DeskTest):
    def check(self, desk, plain, line):
        wanted = plain.answer(line)
        if isinstance(wanted, str):
            self.assertEqual(desk.answer(line), wanted, line)
        else:
            refused(self, wanted, desk.answer, line)

    def line(self, chance, ways, stretches):
        head = chance.choice(["put"] * 8 + ["take"] * 3 + ["back"] * 3 + ["at"] * 2 + ALONE + ["ways", "sky", "fewest"])
        if chance.randrange(12) == 0:
            ways = chance.choice([1, 2, 3])
        spot = ",".join(figures(chance.randrange(PLACES_LOW - 1, PLACES_HIGH + 1)) for _ in range(ways))
        houses = [chance.choice(stretches) + (chance.randint(1, 4),) for _ in range(chance.randint(1, 5))]
        skyline = skyline_of(houses)
        rest = {
            "put": chance.choice(NAMES) + " " + box_written([chance.choice(stretches) for _ in range(ways)]),
            "take": chance.choice(NAMES), "at": spot,
            "ways": chance.choice("1234") if chance.randrange(9) == 0 else "4",
            "sky": " ".join(box_written([house[:2]]) + "^" + figures(house[2]) for house in houses),
        "fewest": " ".join(figures(number) + "^" + figures(height) for number, height in skyline), }
        return head + " " + rest[head] if head in rest else head

    def test_as_they_come(self):
        stretches = all_stretches(PLACES_LOW, PLACES_HIGH)
        for seed in range(12):
            chance = random.Random(seed)
            desk = Desk()
            plain = PlainDesk()
            self.check(desk, plain, f"ways {seed % 3 + 1}")
            for _ in range(150):
                self.check(desk, plain, self.line(chance, plain.ways, stretches))

    def test_each_sign_put_in_out_exchanged(self):
        lines = ALONE + ["ways 1", "ways 3", "put d 0..3", "put d 0..3,-1..2", "put d -2..1,0..3,1..2", "put a 0..3",
                         "take a", "take b", "at 1", "at 1,-2", "at 1,2,3", "sky 0..3^2 1..4^1", "sky -",
                         "fewest 0^1 2^3 4^0", "fewest -"]
        for ways in (1, 2):
            for line in lines:
                for other in dict.fromkeys(changed_by_one_sign(line)):
                    self.check_anew(ways, other)

    def check_anew(self, ways, line):
        desk = Desk()
        plain = PlainDesk()
        self.check(desk, plain, f"ways {ways}")
        for name in ["a", "b"]:
            self.check(desk, plain, f"put {name} " + BOXES_WRITTEN[ways])
        self.check(desk, plain, "take b")
        self.check(desk, plain, line)


class TestRefusals(DeskTest):
    def test_what_is_no_text(self):
        for ways in UNIT:
            lines = [thing for thing in things() if not isinstance(thing, str)] + [["names"], ("size",), {"back": 1}]
            self.check_refused(self.filled(ways), NoAsk, *lines)

    def test_none_of_these_lines(self):
        lines = ["", " ", "  ", "-", "x", "Names", "NAMES", "name", "namess", "names names", "names size", "ok", "undo",
                 "help", "ways", "ways ", "put", "put ", "take", "take ", "at", "at ", "sky", "fewest", "width 1", "~",
                 "put_box a 0..1", "size 1", "often 1", "parting 1", "back 1", "back back", "rounds 2", "0", "1"]
        lines += [" " + line for line in ALONE] + [line + " " for line in ALONE] + [line + "\t" for line in ALONE]
        lines += [" ways 1", "ways  1", "ways 1 ", "ways\t1", "ways 0", "ways 4", "ways 01", "ways 1 1", "ways a",
                  "ways -1", "ways 1,2", "ways 12", "ways +1", "ways one"]
        lines += [" take a", "take  a", "take a ", "take a b", "take A", "take 1", "take abcdefghi", "take a1",
                  "take -", "take \u00e9"]
        lines += [" at 1", "at  1", "at 1 ", "at 1 2", "at a", "at 01", "at -0", "at 1,", "at ,1", "at 1,2,3,4",
                  "at 1..2", "at -", "at +1"]
        lines += [" sky 0..1^1", " fewest 0^1 1^0", "Sky -", "sky\t-", "skies -", "fewest-", "sky-"]
        for ways in UNIT:
            self.check_refused(self.filled(ways), NoAsk, *lines)

    def test_put_that_is_none_of_these_lines(self):
        boxes = ["", " ", "-", "0", "0..0", "1..0", "0..", "..1", "0...1", "0..1 ", " 0..1", "0..1 2..3", "0..1,",
                 ",0..1", "0..1,0..0", "0..1,0..1,0..1,0..1", "00..1", "0..01", "-0..1", "a..b", "0..1;0..1",
                 "0..1, 0..1", "1 0..1", "0..1^1", "0..1\t", "0,1", "(0,1)"]
        names = ["", "A", "aB", "a1", "abcdefghi", "-", "0..1", "\u00e9", "a,b", "_", "\t"]
        for ways in UNIT:
            lines = ["put a " + box for box in boxes] + ["put d " + box for box in boxes] + ["put a", "put d"]
            lines += ["put " + name + " " + BOXES_WRITTEN[ways] for name in names]
            lines += [" put d " + BOXES_WRITTEN[ways], "put  d " + BOXES_WRITTEN[ways], "put d  " + BOXES_WRITTEN[ways],
                      "put d\t" + BOXES_WRITTEN[ways], "put " + BOXES_WRITTEN[ways],
                      "put d " + BOXES_WRITTEN[ways] + " "]
            self.check_refused(self.filled(ways), NoAsk, *lines)

    def test_a_line_feed(self):
        for ways in UNIT:
            lines = ALONE + ["ways 1", "put d " + BOXES_WRITTEN[ways], "take a", "at " + ",".join(["0"] * ways),
                             "sky -", "sky 0..1^1", "fewest -", "fewest 0^1 1^0", "sky ", "fewest x"]
            desk = self.filled(ways)
            self.check_refused(desk, NoAsk, *[line + "\n" for line in lines], *["\n" + line for line in lines], "\n")
            self.check_refused(desk, NoAsk, *[line.replace(" ", "\n") for line in lines if " " in line])
            self.check_refused(desk, NoAsk, *[line.replace(" ", " \n") for line in lines if " " in line])

    def test_no_text(self):
        wrong = ["", " ", "  ", "--", "- ", " -", "x", "0", "a b"]
        houses = wrong + ["0..1", "0..1^0", "1..0^1", "0..0^1", "0..1^-1", " 0..1^1", "0..1^1 ", "0..1^1  0..1^1",
                          "0..1^1,", "0..01^1", "0^1 1^0", "0..1^1\t", "-0..1^1", "- 0..1^1"]
        lines = wrong + ["0^1", "0^0", "0^1 1^1", "1^1 0^0", "0^1 0^0", "0^1 1^0 ", " 0^1 1^0", "0^1  1^0", "0..1^1",
                         "0^1 1^0 2^0", "0^-1 1^0", "-0^1 1^0", "0^1\t1^0"]
        for ways in UNIT:
            desk = self.filled(ways)
            self.check_refused(desk, NoText, *["sky " + text for text in houses])
            self.check_refused(desk, NoText, *["fewest " + text for text in lines])

    def test_as_the_stages_refuse(self):
        for ways in UNIT:
            desk = self.filled(ways)
            others = [box for other, box in BOXES_WRITTEN.items() if other != ways]
            self.check_refused(desk, NoName, "put a " + BOXES_WRITTEN[ways], "put c " + BOXES_WRITTEN[ways])
            self.check_refused(desk, NoName, "take b", "take d", "take zzzzzzzz")
            self.check_refused(desk, NoBox, *["put d " + box for box in others])
            self.check_refused(desk, NoSpot, *["at " + spot for spot in ["0", "0,0", "0,0,0"]
                                               if len(spot.split(",")) != ways])
            if ways != 1:
                self.check_refused(desk, NoWays, "pieces", "gaps")
            if ways != 2:
                self.check_refused(desk, NoWays, "rounds", "holes")

    def test_no_name_goes_ahead_of_no_box_and_that_ahead_of_too_many(self):
        for ways, most in LIMITS.items():
            desk = Desk()
            desk.answer(f"ways {ways}")
            for name in NAMES[:most]:
                desk.answer("put " + name + " " + BOXES_WRITTEN[ways])
            for other, box in BOXES_WRITTEN.items():
                self.check_refused(desk, NoName, "put a " + box)
                self.check_refused(desk, TooMany if other == ways else NoBox, "put " + NAMES[most] + " " + box)
            self.check_refused(desk, NoAsk, "put a 1..0", "put A " + BOXES_WRITTEN[ways], "put " + NAMES[most] + " 0")

    def test_no_deed(self):
        for ways in UNIT:
            desk = Desk()
            desk.answer(f"ways {ways}")
            self.check_refused(desk, NoDeed, "back")
            desk.answer("put a " + BOXES_WRITTEN[ways])
            desk.answer("back")
            self.check_refused(desk, NoDeed, "back")

    def test_refused_lines_are_no_deeds(self):
        for ways in UNIT:
            desk = self.filled(ways)
            before = self.state(desk)
            for line in ["put a " + BOXES_WRITTEN[ways], "take b", "put d 9..8", "sky ", "ways 4", "x", "at x", None]:
                try:
                    desk.answer(line)
                except (NoName, NoAsk, NoText):
                    pass
                else:
                    self.fail(line)
            self.assertEqual(self.state(desk), before)
            answers = self.say(desk, "back", "back", "back", "back")
            self.assertEqual(sum(map(int, answers)), -(3 ** ways + 2 ** ways))
            refused(self, NoDeed, desk.answer, "back")


if __name__ == "__main__":
    unittest.main()
