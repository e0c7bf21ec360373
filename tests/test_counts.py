import itertools
import math
import unittest

from rodbeads.counts import cores_of, fillings, many_cores, many_quotients, many_rows, rows_of
from rodbeads.rods import is_core
from rodbeads.rows import is_row, turned
from tests.samples import ALL_RODS, WRONG_RODS, Refusals, all_hooks, rows_for_rods, rows_of_size, small_rows


def row_counts(most):
    """How many rows there are, by the sums over the pentagonal numbers."""
    counts = [1]
    for size in range(1, most + 1):
        found = 0
        for k in range(1, size + 1):
            for step in (k * (3 * k - 1) // 2, k * (3 * k + 1) // 2):
                if step <= size:
                    found += counts[size - step] * (1 if k % 2 else -1)
        counts.append(found)
    return counts


def list_counts(rods, most):
    """How many lists of rows there are, one row after the other."""
    one = row_counts(most)
    counts = [1] + [0] * most
    for rod in range(rods):
        counts = [sum(counts[k] * one[w - k] for k in range(w + 1)) for w in range(most + 1)]
    return counts


def core_counts(rods, most):
    """How many cores there are, by their charges and the sizes of point 8."""
    slack = 2 * rods * rods
    states = {(0, 0): 1}
    for k in range(rods):
        grown = {}
        for (total, twice), many in states.items():
            for c in range(-25, 26):
                size = twice + rods * c * c + 2 * k * c
                if size <= 2 * most + slack:
                    key = (total + c, size)
                    grown[key] = grown.get(key, 0) + many
        states = grown
    return [states.get((0, 2 * size), 0) for size in range(most + 1)]


def rows_with_a_cell_less(row):
    found = []
    for line, number in enumerate(row):
        if line == len(row) - 1 or row[line + 1] < number:
            found.append([n for n in row[:line] + [number - 1] + row[line + 1:] if n > 0])
    return found


def orders_by_cells(row):
    """Takes the cells away one by one in every order that leaves a row each time."""
    return sum(orders_by_cells(less) for less in rows_with_a_cell_less(row)) if row else 1


class FillingsTest(Refusals):
    def test_told_values(self):
        self.assertEqual(fillings([]), 1)
        self.assertEqual(fillings([1]), 1)
        self.assertEqual(fillings([2, 1]), 2)
        self.assertEqual(fillings([3, 2, 1]), 16)
        self.assertEqual(fillings([4, 2, 2]), 56)
        self.assertEqual(fillings([60]), 1)
        self.assertEqual(fillings([1] * 60), 1)
        self.assertEqual(fillings([4, 4, 4, 4]), 24024)

    def test_small_rows_against_all_orders(self):
        for size in range(9):
            for row in rows_of_size(size):
                self.assertEqual(fillings(row), orders_by_cells(row), row)

    def test_two_lines(self):
        for size in range(61):
            for second in range(1, size // 2 + 1):
                known = math.comb(size, second) - math.comb(size, second - 1)
                self.assertEqual(fillings([size - second, second]), known)
                self.assertEqual(fillings(turned([size - second, second])), known)

    def test_a_line_and_a_column(self):
        for size in range(1, 61):
            for below in range(size):
                self.assertEqual(fillings([size - below] + [1] * below), math.comb(size - 1, below))

    def test_the_sum_over_the_rows_with_a_cell_less(self):
        for row in rows_for_rods():
            if row:
                self.assertEqual(fillings(row), sum(fillings(less) for less in rows_with_a_cell_less(row)), row)

    def test_all_squares_come_to_all_orders(self):
        for size in range(13):
            self.assertEqual(sum(fillings(row) ** 2 for row in rows_of_size(size)), math.factorial(size))

    def test_whole_numbers_and_the_row_as_it_was(self):
        for row in rows_for_rods():
            self.assertIs(type(fillings(row)), int)
            self.assert_askers_own(fillings, row)


class RowsOfTest(Refusals):
    def test_told_values(self):
        self.assertEqual(rows_of(0), [[]])
        self.assertEqual(rows_of(1), [[1]])
        self.assertEqual(rows_of(2), [[2], [1, 1]])
        self.assertEqual(
            rows_of(5), [[5], [4, 1], [3, 2], [3, 1, 1], [2, 2, 1], [2, 1, 1, 1], [1, 1, 1, 1, 1]]
        )

    def test_all_rows_once_and_in_order(self):
        known = row_counts(20)
        for many in range(21):
            told = rows_of(many)
            self.assertEqual(len(told), known[many])
            self.assertEqual(told, sorted(told, reverse=True))
            self.assertEqual(len({tuple(row) for row in told}), len(told))
            self.assertTrue(all(type(row) is list and is_row(row) and sum(row) == many for row in told))

    def test_more_than_20_cells_are_not_refused(self):
        self.assertEqual(len(rows_of(24)), 1575)

    def test_what_is_told_is_the_askers_own(self):
        for many in range(9):
            self.assert_askers_own(rows_of, many)


class ManyRowsTest(unittest.TestCase):
    def test_told_values(self):
        told = [many_rows(many) for many in range(11)]
        self.assertEqual(told, [1, 1, 2, 3, 5, 7, 11, 15, 22, 30, 42])
        self.assertEqual([many_rows(many) for many in (20, 30, 40, 50, 60)], [627, 5604, 37338, 204226, 966467])

    def test_the_known_numbers(self):
        self.assertEqual([many_rows(many) for many in range(71)], row_counts(70))

    def test_as_many_as_the_rows(self):
        for many in range(21):
            self.assertEqual(many_rows(many), len(rows_of(many)))
            self.assertIs(type(many_rows(many)), int)


class ManyQuotientsTest(Refusals):
    def test_told_values(self):
        self.assertEqual([many_quotients(2, many) for many in range(8)], [1, 2, 5, 10, 20, 36, 65, 110])
        self.assertEqual([many_quotients(3, many) for many in range(6)], [1, 3, 9, 22, 51, 108])
        self.assertEqual([many_quotients(8, many) for many in range(3)], [1, 8, 44])

    def test_against_all_lists_of_rows(self):
        rows = small_rows()
        for rods, most in ((1, 10), (2, 7), (3, 5), (4, 4), (5, 3), (6, 2), (7, 2), (8, 2)):
            some = [row for row in rows if sum(row) <= most]
            sizes = [sum(sum(row) for row in rows) for rows in itertools.product(some, repeat=rods)]
            for many in range(most + 1):
                self.assertEqual(many_quotients(rods, many), sizes.count(many), (rods, many))

    def test_to_60_cells(self):
        for rods in ALL_RODS:
            self.assertEqual([many_quotients(rods, many) for many in range(63)], list_counts(rods, 62))

    def test_by_one_rod_the_rows(self):
        for many in range(61):
            self.assertEqual(many_quotients(1, many), many_rows(many))

    def test_wrong_counts_of_rods(self):
        for rods in WRONG_RODS:
            for many in (0, 1, 5, 60):
                self.assert_refused("NoRods", many_quotients, rods, many)

    def test_the_rods_come_first(self):
        self.assertEqual(many_quotients(3, 0), 1)
        self.assertEqual(many_quotients(2, 60), list_counts(2, 60)[60])
        self.assert_refused("NoRods", many_quotients, 0, 3)


class CoresTest(Refusals):
    def test_told_values(self):
        self.assertEqual(cores_of(0, 8), [[]])
        self.assertEqual(cores_of(6, 2), [[3, 2, 1]])
        self.assertEqual(cores_of(5, 2), [])
        self.assertEqual(cores_of(2, 3), [[2], [1, 1]])
        self.assertEqual(cores_of(5, 3), [[3, 1, 1]])
        self.assertEqual([many_cores(many, 3) for many in range(9)], [1, 1, 2, 0, 2, 1, 2, 0, 1])
        self.assertEqual([many_cores(many, 4) for many in range(9)], [1, 1, 2, 3, 1, 3, 3, 3, 4])

    def test_the_rows_without_such_a_hook_in_order(self):
        for many in range(21):
            rows = [(row, all_hooks(row)) for row in rows_of(many)]
            for rods in ALL_RODS:
                right = [row for row, hooks in rows if all(hook % rods != 0 for hook in hooks)]
                self.assertEqual(cores_of(many, rods), right, (many, rods))
                self.assertEqual(many_cores(many, rods), len(right), (many, rods))
                self.assertTrue(all(is_core(row, rods) for row in right))

    def test_by_one_rod_only_the_empty_row(self):
        for many in range(61):
            self.assertEqual(many_cores(many, 1), 1 if many == 0 else 0)
        for many in range(21):
            self.assertEqual(cores_of(many, 1), [[]] if many == 0 else [])

    def test_by_two_rods_the_stairs(self):
        stairs = [k * (k + 1) // 2 for k in range(12)]
        for many in range(61):
            self.assertEqual(many_cores(many, 2), stairs.count(many))

    def test_to_60_cells_by_their_charges(self):
        for rods in ALL_RODS:
            self.assertEqual([many_cores(many, rods) for many in range(64)], core_counts(rods, 63))

    def test_the_sum_of_point_14(self):
        for rods in ALL_RODS:
            for many in range(61):
                total = 0
                for w in range(many // rods + 1):
                    total += many_cores(many - rods * w, rods) * many_quotients(rods, w)
                self.assertEqual(total, many_rows(many), (many, rods))

    def test_wrong_counts_of_rods(self):
        for rods in WRONG_RODS:
            for many in (0, 1, 5, 20):
                self.assert_refused("NoRods", cores_of, many, rods)
                self.assert_refused("NoRods", many_cores, many, rods)
            self.assert_refused("NoRods", many_cores, 60, rods)

    def test_of_cells_below_nought_there_are_none_but_wrong_rods_are_refused(self):
        self.assertEqual((rows_of(-1), many_rows(-1)), ([], 0))
        self.assertEqual((many_quotients(3, -1), cores_of(-1, 3), many_cores(-1, 3)), (0, [], 0))
        self.assert_refused("NoRods", many_quotients, 0, -1)
        self.assert_refused("NoRods", cores_of, -1, 9)
        self.assert_refused("NoRods", many_cores, -1, 9)

    def test_the_cells_come_first(self):
        self.assertEqual(cores_of(10, 2), [[4, 3, 2, 1]])
        self.assertEqual(many_cores(10, 2), 1)
        self.assertEqual(many_cores(60, 1), 0)
        self.assertEqual(many_cores(0, 5), 1)

    def test_what_is_told_is_the_askers_own(self):
        for many in range(8):
            for rods in ALL_RODS:
                self.assert_askers_own(cores_of, many, rods)
                self.assertIs(type(many_cores(many, rods)), int)


if __name__ == "__main__":
    unittest.main()
