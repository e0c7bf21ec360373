import itertools
import unittest

from rodbeads.rows import hooks, is_row, turned
from tests.samples import all_rows, cells, hook_by_count, small_rows


class IsRowTest(unittest.TestCase):
    def test_the_empty_list_is_a_row(self):
        self.assertIs(is_row([]), True)

    def test_rows(self):
        for row in all_rows():
            self.assertIs(is_row(row), True, row)

    def test_numbers_that_are_nought_or_below(self):
        for numbers in ([0], [-1], [0, 0], [3, 0], [3, 2, -2], [0, 1], [-1, 3], [5, 0, 1], [-2, -3], [1, 1, 1, 0]):
            self.assertIs(is_row(numbers), False, numbers)

    def test_lists_that_rise_somewhere(self):
        for numbers in ([1, 2], [2, 3, 1], [3, 1, 2], [5, 5, 4, 4, 5], [4, 3, 2, 1, 2], [2, 1, 2], [9, 1, 2, 1]):
            self.assertIs(is_row(numbers), False, numbers)

    def test_every_short_list_of_small_numbers(self):
        for length in range(5):
            for numbers in itertools.product(range(-1, 4), repeat=length):
                falls = list(numbers) == sorted(numbers, reverse=True)
                self.assertIs(is_row(list(numbers)), falls and all(n >= 1 for n in numbers), numbers)

    def test_numbers_whatever_they_come_to(self):
        huge = 10 ** 40
        self.assertIs(is_row([huge, huge, huge - 1, 1]), True)
        self.assertIs(is_row([huge - 1, huge]), False)
        self.assertIs(is_row([huge, -huge]), False)
        self.assertIs(is_row([100] * 5000), True)
        self.assertIs(is_row(list(range(5000, 0, -1))), True)
        self.assertIs(is_row(list(range(5000, -1, -1))), False)

    def test_the_list_is_as_it_was(self):
        for numbers in ([], [3, 2, 2], [1, 3, 2], [0, -1, 4]):
            before = list(numbers)
            is_row(numbers)
            self.assertEqual(numbers, before)


class TurnedTest(unittest.TestCase):
    def test_told_values(self):
        self.assertEqual(turned([]), [])
        self.assertEqual(turned([1]), [1])
        self.assertEqual(turned([5]), [1, 1, 1, 1, 1])
        self.assertEqual(turned([1, 1, 1, 1]), [4])
        self.assertEqual(turned([4, 2, 2]), [3, 3, 1, 1])
        self.assertEqual(turned([60]), [1] * 60)
        self.assertEqual(turned([1] * 60), [60])

    def test_against_the_cells(self):
        for row in all_rows():
            there = [place for line, place in cells(row)]
            self.assertEqual(turned(row), [there.count(place) for place in range(len(set(there)))], row)

    def test_it_is_a_row_and_turned_twice_it_is_the_row(self):
        for row in all_rows():
            self.assertTrue(is_row(turned(row)), row)
            self.assertEqual(sum(turned(row)), sum(row))
            self.assertEqual(turned(turned(row)), row)

    def test_the_row_is_as_it_was(self):
        for row in all_rows():
            before = list(row)
            turned(row)
            self.assertEqual(row, before)

    def test_a_told_list_is_the_askers_own(self):
        for row in ([], [1], [2, 1], [4, 2, 2]):
            before = list(row)
            told = turned(row)
            right = list(told)
            told.append(99)
            told[0] = 77
            self.assertEqual(row, before)
            self.assertEqual(turned(row), right)

    def test_what_was_handed_in_is_not_kept(self):
        row = [4, 2, 2]
        told = turned(row)
        row[0] = 2
        self.assertEqual(told, [3, 3, 1, 1])
        self.assertEqual(turned(row), [3, 3])


class HooksTest(unittest.TestCase):
    def test_told_values(self):
        self.assertEqual(hooks([]), [])
        self.assertEqual(hooks([1]), [[1]])
        self.assertEqual(hooks([4]), [[4, 3, 2, 1]])
        self.assertEqual(hooks([1, 1, 1]), [[3], [2], [1]])
        self.assertEqual(hooks([4, 2, 2]), [[6, 5, 2, 1], [3, 2], [2, 1]])
        self.assertEqual(hooks([60]), [list(range(60, 0, -1))])
        self.assertEqual(hooks([1] * 60), [[hook] for hook in range(60, 0, -1)])

    def test_against_a_count_of_cells_behind_and_below(self):
        for row in all_rows():
            counted = [[hook_by_count(row, line, place) for place in range(row[line])] for line in range(len(row))]
            self.assertEqual(hooks(row), counted, row)

    def test_the_turned_rows_hooks_are_the_hooks_turned(self):
        for row in small_rows():
            there = hooks(turned(row))
            for line, place in cells(row):
                self.assertEqual(hooks(row)[line][place], there[place][line])

    def test_the_row_is_as_it_was(self):
        for row in all_rows():
            before = list(row)
            hooks(row)
            self.assertEqual(row, before)

    def test_told_lists_are_the_askers_own(self):
        for row in ([], [1], [3, 3, 3], [4, 2, 2]):
            before = list(row)
            told = hooks(row)
            right = [list(line) for line in told]
            for number, line in enumerate(told):
                line.append(50 + number)
                self.assertEqual(told[number + 1:], right[number + 1:])
            told.append([99])
            self.assertEqual(row, before)
            self.assertEqual(hooks(row), right)

    def test_what_was_handed_in_is_not_kept(self):
        row = [2, 1]
        told = hooks(row)
        row.append(1)
        self.assertEqual(told, [[3, 1], [1]])
        self.assertEqual(hooks(row), [[4, 1], [2], [1]])


if __name__ == "__main__":
    unittest.main()
