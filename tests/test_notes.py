import itertools
import string
import unittest

from rodbeads.notes import read, written
from tests.samples import Refusals, large_rows, middling_rows, rows_of_size

SIGNS = [chr(code) for code in range(32, 127) if chr(code) != "%"] + ["\t", "\n"]


def rows_to_write():
    return [row for size in range(15) for row in rows_of_size(size)] + middling_rows() + large_rows()


class WrittenTest(Refusals):
    def test_told_values(self):
        self.assertEqual(written([]), "0")
        self.assertEqual(written([1]), "1")
        self.assertEqual(written([4, 2, 2]), "4+2+2")
        self.assertEqual(written([60]), "60")
        self.assertEqual(written([10, 10, 1]), "10+10+1")
        self.assertEqual(written([1] * 60), "+".join("1" * 60))

    def test_a_row_of_more_than_60_cells_is_written(self):
        self.assertEqual(written([61]), "61")
        self.assertEqual(written([100, 7]), "100+7")

    def test_it_is_a_text_and_the_row_is_as_it_was(self):
        for row in rows_to_write():
            before = list(row)
            self.assertIs(type(written(row)), str)
            self.assertEqual(row, before)

    def test_unlike_rows_are_written_unlike(self):
        rows = [row for size in range(13) for row in rows_of_size(size)]
        self.assertEqual(len({written(row) for row in rows}), len(rows))


class ReadTest(Refusals):
    def test_told_values(self):
        self.assertEqual(read("0"), [])
        self.assertEqual(read("1"), [1])
        self.assertEqual(read("4+2+2"), [4, 2, 2])
        self.assertEqual(read("60"), [60])
        self.assertEqual(read("10+10+1"), [10, 10, 1])
        self.assertEqual(read("30+30"), [30, 30])
        self.assertEqual(read("+".join("1" * 60)), [1] * 60)

    def test_each_row_there_and_back(self):
        for row in rows_to_write():
            told = read(written(row))
            self.assertEqual(told, row)
            self.assertIs(type(told), list)
            self.assertTrue(all(type(number) is int for number in told))

    def test_wrong_texts(self):
        texts = [
            "", " ", "\t", "\n", "00", "01", "04+2", "4+02", "4+2+00", "000", "-0", "+0", "+", "++", "-1", "+1", "1+",
            "4+", "+4+2", "4++2", "4+2+", "0+0", "0+1", "4+0", "4+2+0", "0+", "+0+", " 4", "4 ", "4 +2", "4+ 2",
            "4\t+2", "4+2\n", "\n4+2", "4+2\t", "4\n2", "4 2", "1+2", "3+1+2", "4+2+3", "9+10", "2+60", "--4", "4+-2",
            "4-2", "4,2", "4.0", "4e0", "1_0", "0x4", "four", "a", "4+a", "a+4", "[4]", "(4)", "4+2+2;", "'4'", "1/1",
            "4*1", "~", "!", "0b1", "0o1", "00+0", "4+2 + 2", "0 ", " 0", "0\n", "0\t", "\\t", "4+2+2\\n",
        ]
        for text in texts:
            self.assert_refused("NoNote", read, text)

    def test_rows_of_more_than_60_cells(self):
        for text in ("61", "60+1", "31+30", "59+1+1", "100", "99", "20+20+20+1", "+".join("1" * 61), "1000000"):
            self.assert_refused("NoNote", read, text)
        for size in (61, 62, 70):
            for first in range(1, size + 1):
                row = [first] * (size // first) + ([size % first] if size % first else [])
                self.assert_refused("NoNote", read, written(row))

    def test_very_long_texts(self):
        for text in (
            "1" * 5000, "9" * 100000, "4+" + "1" * 6000, "0" * 5000, "0" * 5000 + "1", "1+" * 5000 + "1", "+" * 5000,
            " " * 5000 + "4", "4" + "\n" * 5000,
        ):
            self.assert_refused("NoNote", read, text)

    def test_each_text_of_few_signs(self):
        known = {written([number]): [number] for number in range(1, 61)}
        known["0"] = []
        for length in (1, 2):
            for signs in itertools.product(SIGNS, repeat=length):
                self.check_read("".join(signs), known)

    def test_each_text_of_a_few_kinds_of_sign(self):
        # Five signs hold at most three numbers, and three only where each has one figure.
        numbers, figures = range(1, 61), range(1, 10)
        rows = [[]] + [[one] for one in numbers]
        rows += [[one, two] for one in numbers for two in numbers if two <= one <= 60 - two]
        rows += [[a, b, c] for a in figures for b in figures for c in figures if a >= b >= c]
        known = {"+".join(map(str, row)) if row else "0": row for row in rows}
        for length in range(6):
            for signs in itertools.product("0126+ -", repeat=length):
                self.check_read("".join(signs), known)

    def check_read(self, text, known):
        if text in known:
            self.assertEqual(read(text), known[text])
        else:
            self.assert_refused("NoNote", read, text)

    def test_a_sign_put_into_a_text(self):
        text = "12+3+3+1"
        for place in range(len(text) + 1):
            for one in SIGNS:
                if one not in string.digits:
                    self.assert_refused("NoNote", read, text[:place] + one + text[place:])

    def test_what_is_told_is_the_askers_own(self):
        for text in ("0", "1", "4+2+2"):
            self.assert_askers_own(read, text)


if __name__ == "__main__":
    unittest.main()
