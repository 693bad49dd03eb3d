import itertools
import unittest

from boxcover.errors import NoHeap, NoHouses, NoSkyline, NoSpot, NoText
from boxcover.heights import skyline_of
from boxcover.texts import (
    heap_text, houses_text, read_heap, read_houses, read_skyline, read_spot, skyline_text, spot_text,
)
from tests.helper import (
    FAR, LIMITS, LONG, UNIT, changed_by_one_sign, counted, figures, heap_plainly, houses_plainly, no_heaps, no_houses,
    no_skylines, no_wholes, refused, skyline_plainly, spot_plainly, things, told,
)

READS = [read_heap, read_spot, read_houses, read_skyline]
PLAINLY = {read_heap: heap_plainly, read_spot: spot_plainly, read_houses: houses_plainly, read_skyline: skyline_plainly}
WRITINGS = {
    read_heap: ["1", "2", "3", "1 0..3", "2 0..3,-1..4", "3 0..1,-12..0,9..10", "1 -10..-9 0..7 0..7",
                "2 0..3,-1..4 10..20,5..6"],
    read_spot: ["0", "-1", "7,0", "10,-20,30"],
    read_houses: ["-", "0..3^2", "-10..-9^1 0..7^12 0..7^12"],
    read_skyline: ["-", "0^3 2^0", "-10^1 0^12 7^1 10^0", "-1^1 0^0 1^10 20^0"],
}


class TestWritten(unittest.TestCase):
    def test_examples(self):
        self.assertEqual(told(self, heap_text, (2, [((0, 3), (-1, 4))])), "2 0..3,-1..4")
        self.assertEqual(told(self, heap_text, (1, [])), "1")
        self.assertEqual(told(self, heap_text, (3, [UNIT[3], ((-2, -1), (5, 10), (0, 100))])),
                         "3 0..1,0..1,0..1 -2..-1,5..10,0..100")
        self.assertEqual(told(self, spot_text, (3,)), "3")
        self.assertEqual(told(self, spot_text, (0, -4)), "0,-4")
        self.assertEqual(told(self, spot_text, (0, -4, 20)), "0,-4,20")
        self.assertEqual(told(self, houses_text, [(0, 6, 3), (-4, 9, 5)]), "0..6^3 -4..9^5")
        self.assertEqual(told(self, skyline_text, [(-4, 5), (9, 0)]), "-4^5 9^0")

    def test_none(self):
        self.assertEqual([heap_text((ways, [])) for ways in UNIT], ["1", "2", "3"])
        self.assertEqual(told(self, houses_text, []), "-")
        self.assertEqual(told(self, skyline_text, []), "-")

    def test_figure_by_figure(self):
        numbers = [0, 1, 9, 10, 11, 100, 101, 999, 12345, FAR, FAR - 1, LONG]
        numbers += [-number for number in numbers]
        for number in numbers:
            self.assertEqual(told(self, spot_text, (number,)), figures(number))
            self.assertEqual(told(self, read_spot, figures(number)), (number,))
            self.assertEqual(told(self, houses_text, [(number, number + 1, abs(number) + 1)]),
                             figures(number) + ".." + figures(number + 1) + "^" + figures(abs(number) + 1))
            self.assertEqual(told(self, skyline_text, [(number, 7), (number + 3, 0)]),
                             figures(number) + "^7 " + figures(number + 3) + "^0")
            for ways in UNIT:
                written = ",".join([figures(number) + ".." + figures(number + 2)] * ways)
                self.assertEqual(told(self, heap_text, (ways, [((number, number + 2),) * ways])), f"{ways} {written}")

    def test_heaps(self):
        for ways in UNIT:
            for one in counted(ways, 20):
                written = figures(ways)
                for box in one.heap[1]:
                    written += " " + ",".join(figures(low) + ".." + figures(high) for low, high in box)
                self.assertEqual(told(self, heap_text, one.heap), written)
                self.assertEqual(told(self, read_heap, written), one.heap)
                for spot in list(one.holders)[:5]:
                    self.assertEqual(read_spot(spot_text(spot)), spot)

    def test_houses_and_skylines(self):
        for one in counted(2, 20):
            houses = [box[0] + (box[1][1] - box[1][0],) for box in one.heap[1]]
            written = " ".join(figures(low) + ".." + figures(high) + "^" + figures(height)
                               for low, high, height in houses) or "-"
            self.assertEqual(told(self, houses_text, houses), written)
            self.assertEqual(told(self, read_houses, written), houses)
            line = skyline_of(houses)
            written = " ".join(figures(number) + "^" + figures(height) for number, height in line) or "-"
            self.assertEqual(told(self, skyline_text, line), written)
            self.assertEqual(told(self, read_skyline, written), line)

    def test_forty_houses_and_skylines_of_eighty(self):
        houses = [(place, 81 - place, place + 1) for place in range(40)]
        self.assertEqual(read_houses(houses_text(houses)), houses)
        line = skyline_of(houses)
        self.assertEqual(len(line), 80)
        self.assertEqual(read_skyline(skyline_text(line)), line)

    def test_the_kinds(self):
        self.assertEqual(told(self, read_heap, "2 0..3,-1..4"), (2, [((0, 3), (-1, 4))]))
        self.assertEqual(told(self, read_heap, "1"), (1, []))
        self.assertEqual(told(self, read_spot, "5"), (5,))
        self.assertEqual(told(self, read_houses, "-"), [])
        self.assertEqual(told(self, read_skyline, "-"), [])
        self.assertEqual(told(self, read_houses, "0..1^2 0..1^2"), [(0, 1, 2), (0, 1, 2)])


class TestRead(unittest.TestCase):
    def check(self, read, text):
        wanted = PLAINLY[read](text)
        if wanted is None:
            refused(self, NoText, read, text)
        else:
            self.assertEqual(repr(told(self, read, text)), repr(wanted), text)
        return wanted is not None

    def test_each_writing_by_each_reader(self):
        texts = sorted(set(itertools.chain(*WRITINGS.values())))
        for read, text in itertools.product(READS, texts):
            self.assertTrue(self.check(read, text) or text not in WRITINGS[read])

    def test_each_sign_put_in_out_exchanged(self):
        for read, texts in WRITINGS.items():
            for text in texts:
                self.assertTrue(self.check(read, text))
                found = [self.check(read, other) for other in dict.fromkeys(changed_by_one_sign(text))]
                self.assertTrue(False in found, text)

    def test_short_texts(self):
        for read in READS:
            for long in range(4):
                for signs in itertools.product("01-.,^ ", repeat=long):
                    self.check(read, "".join(signs))

    def test_noughts_and_strokes_ahead(self):
        for bad in ["00", "01", "-0", "-00", "-01", "--1", "+1", "1-", "- 1", "-", "", "1_0", "0x1", "1e2", "1.0",
                    "\u0661", "\u00b2", "\uff11", "a", "None", "True"]:
            refused(self, NoText, read_spot, bad)
            refused(self, NoText, read_spot, bad + ",5")
            refused(self, NoText, read_spot, "5," + bad)
            for text in [f"{bad}..9", f"-9..{bad}"]:
                refused(self, NoText, read_heap, "1 " + text)
                refused(self, NoText, read_heap, "2 0..1," + text)
                refused(self, NoText, read_houses, text + "^1")
            refused(self, NoText, read_houses, f"0..1^{bad}")
            refused(self, NoText, read_skyline, f"{bad}^1 9^0")
            refused(self, NoText, read_skyline, f"-9^{bad} 9^0")
            refused(self, NoText, read_skyline, f"-9^1 9^{bad}")
            if bad not in ["1", "2", "3"]:
                refused(self, NoText, read_heap, bad)
                refused(self, NoText, read_heap, bad + " 0..1")

    def test_blanks(self):
        for read, texts in WRITINGS.items():
            for text in texts:
                for other in [" " + text, text + " ", text.replace(" ", "  "), text.replace(" ", "\t"), text + "\n",
                              "\n" + text, text + "\t", text.replace(",", ", "), text.replace("..", " .. ")]:
                    if other != text:
                        refused(self, NoText, read, other)

    def test_writings_of_no_heap(self):
        for text in ["0", "4", "-1", "10", "1 0..0", "1 1..0", "1 0..1,0..1", "2 0..1", "2 0..1,0..1,0..1",
                     "3 0..1,0..1", "4 0..1,0..1,0..1,0..1", "0 ", "1 -", "-", "", " ", "2 0..1,0..1 0..1",
                     "2 0..1,3..3"]:
            refused(self, NoText, read_heap, text)
        for ways, most in LIMITS.items():
            box = ",".join(["0..1"] * ways)
            self.assertEqual(told(self, read_heap, " ".join([str(ways)] + [box] * most)), (ways, [UNIT[ways]] * most))
            refused(self, NoText, read_heap, " ".join([str(ways)] + [box] * (most + 1)))

    def test_writings_of_no_spot(self):
        for text in ["", ",", "1,", ",1", "1,,2", "1,2,3,4", "1 2", "1;2", "(1,2)", "1..2", "-", "1,2,", "1,2,3,"]:
            refused(self, NoText, read_spot, text)

    def test_writings_of_no_houses(self):
        for text in ["", " ", "--", "- -", "0..0^1", "1..0^1", "0..1^0", "0..1^-1", "0..1", "0^1", "0..1^1^1",
                     "0..1..2^1", "0..1^1,0..1^1", "- 0..1^1", "0..1^1 -", "0..1^1  0..1^1", "^1", "0..1^", "..^",
                     "0...1^1"]:
            refused(self, NoText, read_houses, text)

    def test_writings_of_no_skyline(self):
        for text in ["", " ", "--", "0^1", "0^0", "0^0 1^0", "0^1 1^1", "0^1 0^0", "1^1 0^0", "0^1 1^1 2^0",
                     "0^1 1^0 2^0", "0^-1 1^0", "0^1 1^0 -", "0^1,1^0", "0^1  1^0", "0..1^1", "0^1^1 1^0", "^",
                     "^1 2^0", "0^ 2^0", "0^1 1^-1 2^0"]:
            refused(self, NoText, read_skyline, text)

    def test_what_is_no_text(self):
        for read, thing in itertools.product(READS, things() + [["1"], ("1",), {"1": 1}, ["-"]]):
            if not isinstance(thing, str):
                refused(self, NoText, read, thing)

    def test_texts_of_every_kind(self):
        texts = [thing for thing in things() if isinstance(thing, str)]
        texts += ["".join(chr(sign) for sign in range(32, 127)), "x" * 600, "1" * 600, " " * 600, "\n", "\t", "-" * 9,
                  "0..1 " * 100, "0^1 " * 100, "\u00e9"]
        for read, text in itertools.product(READS, texts):
            self.check(read, text)

    def test_long_texts(self):
        text = "1 " + "7" * 40 + ".." + "8" * 40
        self.assertEqual(told(self, read_heap, text), (1, [((int("7" * 40), int("8" * 40)),)]))
        self.assertEqual(told(self, read_spot, "9" * 600), (10 ** 600 - 1,))


class TestRefusedToBeWritten(unittest.TestCase):
    def test_no_heap(self):
        for thing in no_heaps():
            refused(self, NoHeap, heap_text, thing)

    def test_no_spot(self):
        for thing in things():
            right = isinstance(thing, tuple) and 1 <= len(thing) <= 3 and all(type(part) is int for part in thing)
            if right:
                self.assertEqual(told(self, spot_text, thing), ",".join(figures(number) for number in thing))
            else:
                refused(self, NoSpot, spot_text, thing)
        for ways, bad in itertools.product(UNIT, no_wholes()):
            for place in range(ways):
                refused(self, NoSpot, spot_text, (5,) * place + (bad,) + (5,) * (ways - place - 1))
        for thing in [(), (1, 2, 3, 4), [1], [1, 2], "1", {0: 1}, ((1,),)]:
            refused(self, NoSpot, spot_text, thing)

    def test_no_houses(self):
        for thing in no_houses():
            refused(self, NoHouses, houses_text, thing)

    def test_no_skyline(self):
        for thing in no_skylines():
            refused(self, NoSkyline, skyline_text, thing)


if __name__ == "__main__":
    unittest.main()
