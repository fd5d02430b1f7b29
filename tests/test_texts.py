"""Texts of NAMEs, numbers and ARRIVALS, there and back."""

import random
import unittest

from helpers import STRANGE, as_lists, chance_net

from freightrights.errors import BadText
from freightrights.texts import arrivals_from, arrivals_text, names_from, names_text, numbers_from, numbers_text

GREAT = 10 ** 40 - 1


class ThereAndBack(unittest.TestCase):
    def test_names(self):
        for names, text in (((), "-"), (("a",), "a"), (("b", "a", "b"), "b a b"), (("abcdefgh", "z"), "abcdefgh z")):
            self.assertEqual((names_text(names), names_text(list(names)), names_from(text)), (text, text, names))

    def test_numbers(self):
        for numbers, text in (((), "-"), ((0,), "0"), ((3, 0, 3), "3 0 3"), ((GREAT, 10 ** 30), "9" * 40 + " 1" + "0" * 30)):
            self.assertEqual((numbers_text(numbers), numbers_text(list(numbers)), numbers_from(text)), (text, text, numbers))

    def test_arrivals(self):
        for rows, text in (((), "-"), ((("a", 0, 1),), "a 0 1"), ((("a", 9, GREAT), ("b", 0, 2)), "a 9 " + "9" * 40 + "; b 0 2"),
                           ((("a", 0, 2), ("a", 1, 2), ("abcdefgh", GREAT, 1)), "a 0 2; a 1 2; abcdefgh " + "9" * 40 + " 1")):
            self.assertEqual((arrivals_text(rows), arrivals_text(as_lists(rows)), arrivals_from(text)), (text, text, rows))

    def test_by_chance(self):
        for seed in range(100):
            _, rows = chance_net(seed, 6, 5, great=True)
            self.assertEqual(arrivals_from(arrivals_text(rows)), rows)

    def test_very_long(self):
        names = ("a", "bb", "abcdefgh") * 4000
        self.assertEqual(names_from(names_text(names)), names)
        numbers = tuple(range(5000))
        self.assertEqual(numbers_from(numbers_text(numbers)), numbers)
        rows = tuple(("a", hour, hour + 1) for hour in range(5000))
        self.assertEqual(arrivals_from(arrivals_text(rows)), rows)

    def test_very_great(self):
        for number in (10 ** 59, 10 ** 60 - 1, 10 ** 60, 10 ** 61 + 7, 10 ** 120, 7 ** 900, 10 ** 5000, 10 ** 6000 - 1):
            self.assertEqual(numbers_from(numbers_text((0, number))), (0, number))
        self.assertEqual(numbers_text((10 ** 61,)), "1" + "0" * 61)


class Wrong(unittest.TestCase):
    def check_bad(self, call, text, piece):
        with self.assertRaises(BadText, msg=repr(text)) as caught:
            call(text)
        self.assertEqual(caught.exception.piece, piece, repr(text))

    def check_places(self, call, good, between, wrong):
        for at in range(len(good)):
            for row in wrong:
                self.check_bad(call, between.join(good[:at] + [row] + good[at + 1:]), at)
                if good[:at] + [row] != ["-"]:
                    self.check_bad(call, between.join(good[:at] + [row]), at)
                self.check_bad(call, between.join(good[:at] + [row, "?", ""]), at)
        self.check_bad(call, between.join(good) + between, len(good))
        self.check_bad(call, between + between.join(good), 0)

    def test_names(self):
        wrong = ["", "A", "aB", "abcdefghi", "a1", "1", "-", "a-b", "\u00e4", "\u00df", "a;", "a\n", "a\tb", "_", "\U0001f600",
                 "a" * 5000, "\u0430", "\u3000"]
        self.check_places(names_from, ["b", "a", "b", "abcdefgh"], " ", wrong)

    def test_numbers(self):
        wrong = ["", "00", "01", "-1", "+1", "1_0", "x", "1x", "1.0", "-", "\u00b2", "\u0663", "1\n", "0x1", "1e3", "1,0", "\t1"]
        self.check_places(numbers_from, ["3", "0", "3", "9" * 40], " ", wrong)

    def test_arrivals(self):
        wrong = ["", "a", "a 1", "b 2 3 4", "b 2 3 ", " b 2 3", "b  2 3", "b 2  3", "b 02 3", "b 2 03", "b 2 0", "b 2 -1", "b x 3",
                 "b 2 x", "B 2 3", "abcdefghi 2 3", "- 2 3", "-", "b 2 3;", "b -2 3", "\u00e4 2 3", "b \u0662 3", "b 2 \u00b3", "1 2 3",
                 "b 2 3\n", "b\t2 3", "b 2,3"]
        self.check_places(arrivals_from, ["a 1 2", "b 0 1", "b 2 3", "c 1 1"], "; ", wrong)

    def test_arrivals_not_ascending(self):
        for text, piece in (("a 1 2; a 1 3", 1), ("a 1 2; a 1 2", 1), ("a 1 2; a 0 5", 1), ("b 0 1; a 5 9", 1),
                            ("a 0 1; a 1 1; b 0 1; a 2 1", 3), ("a 0 1; b 1 1; b 0 9; c 0 1", 2), ("a 10 1; a 9 1", 1)):
            self.check_bad(arrivals_from, text, piece)
        self.assertEqual(arrivals_from("a 9 1; a 10 1; aa 0 1; b 0 1")[1], ("a", 10, 1))

    def test_without_signs_and_dashes(self):
        for call in (names_from, numbers_from, arrivals_from):
            self.assertEqual(call("-"), ())
            for text in ("", " ", "- ", " -", "- -", "--", "-; -", ";", "; ", "-; "):
                self.check_bad(call, text, 0)

    def test_other_separators(self):
        self.check_bad(arrivals_from, "a 0 1;b 0 1", 0)
        self.check_bad(arrivals_from, "a 0 1;  b 0 1", 1)
        self.check_bad(arrivals_from, "a 0 1 ; b 0 1", 0)
        self.check_bad(names_from, "a  b", 1)
        self.check_bad(names_from, "a; b", 0)
        self.check_bad(numbers_from, "1  2", 1)
        self.check_bad(numbers_from, "1\t2", 0)

    def test_any_string(self):
        chance = random.Random(3)
        signs = "ab 09;-z\n\t\u00e4\u0661\u3000\U0001f600A"
        for _ in range(4000):
            text = "".join(chance.choice(signs) for _ in range(chance.randint(0, 9)))
            for read, write in ((names_from, names_text), (numbers_from, numbers_text), (arrivals_from, arrivals_text)):
                try:
                    self.assertEqual(write(read(text)), text)
                except BadText as error:
                    self.assertTrue(0 <= error.piece <= text.count(" "))
        for text in STRANGE:
            if isinstance(text, str) and text not in ("-", "a", "abc"):
                self.check_bad(names_from, text, 1 if text == "hours 1; yard a 0" else 0)
                self.check_bad(numbers_from, text, 0)


if __name__ == "__main__":
    unittest.main()
