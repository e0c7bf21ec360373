import itertools
import unittest

from rodbeads.rods import charges, core, core_of, is_core, joined, quotient
from rodbeads.rows import is_row, turned
from tests.samples import (
    ALL_RODS, WRONG_RODS, Refusals, all_hooks, deep_copy, multiples, numbers_within, parted_by_words, row_by_count,
    rows_for_rods, rows_of_size,
)

ASKED_OF_ROWS = (core, quotient, is_core, charges)


def charge_lists():
    """For 1 to 8 rods lists from -6 to 6 that come to nought, the greatest ones among them."""
    found = [[0] * rods for rods in ALL_RODS]
    for rods in range(2, 9):
        half = rods // 2
        found.append([6] * half + [0] * (rods % 2) + [-6] * half)
        found.append([-6] * half + [0] * (rods % 2) + [6] * half)
        found.append([0] * (rods - 2) + [1, -1])
        found.append([-1] + [0] * (rods - 2) + [1])
        found.append([(5 * k + rods) % 11 - 5 for k in range(rods - 1)])
        found[-1].append(-sum(found[-1]))
    found.extend([list(numbers) for numbers in itertools.product(range(-3, 4), repeat=3) if sum(numbers) == 0])
    return [numbers for numbers in found if all(-6 <= number <= 6 for number in numbers)]


def quotients_to_join(rods):
    some = [[], [1], [3, 1, 1], [2, 2], [1] * 5, [6], [12, 4, 4], [60], [1] * 60]
    lists = [[[] for k in range(rods)]]
    lists.extend([[list(some[(start + 4 * k) % len(some)]) for k in range(rods)] for start in range(len(some))])
    lists.append([[] for k in range(rods - 1)] + [[4, 3, 1]])
    lists.append([[5, 1]] + [[] for k in range(rods - 1)])
    return lists


def small_cores(rods):
    return [row for size in range(9) for row in rows_of_size(size) if all(h % rods for h in all_hooks(row))]


class PartedTest(Refusals):
    def test_told_values(self):
        self.assertEqual(core([], 3), [])
        self.assertEqual(quotient([], 3), [[], [], []])
        self.assertEqual(charges([], 3), [0, 0, 0])
        self.assertIs(is_core([], 3), True)
        self.assertEqual(core([4, 2, 2], 3), [1, 1])
        self.assertEqual(quotient([4, 2, 2], 3), [[1, 1], [], []])
        self.assertEqual(charges([4, 2, 2], 3), [1, -1, 0])
        self.assertIs(is_core([4, 2, 2], 3), False)
        self.assertIs(is_core([1, 1], 3), True)
        self.assertEqual(core([1], 2), [1])
        self.assertEqual(charges([1], 2), [1, -1])
        self.assertEqual(core([2, 1], 2), [2, 1])

    def test_against_beads_laid_with_several_multiples(self):
        for row in rows_for_rods():
            for rods in ALL_RODS:
                told = (core(row, rods), quotient(row, rods), charges(row, rods))
                for times in multiples(row, rods):
                    self.assertEqual(told, parted_by_words(row, rods, times), (row, rods, times))

    def test_one_line_and_one_column(self):
        for many in range(61):
            for rods in ALL_RODS:
                line, column = [many] if many else [], [1] * many
                self.assertEqual(core(line, rods), [many % rods] if many % rods else [])
                self.assertEqual(core(column, rods), [1] * (many % rods))
                self.assertEqual(sorted(quotient(line, rods)), sorted([[]] * (rods - 1) + [[many // rods]])
                                 if many >= rods else [[]] * rods)
                self.assertEqual(sorted(quotient(column, rods)), sorted([[]] * (rods - 1) + [[1] * (many // rods)]))

    def test_by_one_rod_the_row_is_its_quotient(self):
        for row in rows_for_rods():
            self.assertEqual(core(row, 1), [])
            self.assertEqual(quotient(row, 1), [row])
            self.assertEqual(charges(row, 1), [0])
            self.assertIs(is_core(row, 1), row == [])

    def test_is_core_just_where_the_row_is_its_own_core(self):
        for row in rows_for_rods():
            for rods in ALL_RODS:
                self.assertIs(is_core(row, rods), core(row, rods) == row)
                self.assertIs(is_core(core(row, rods), rods), True)
                self.assertEqual(quotient(core(row, rods), rods), [[]] * rods)
                self.assertEqual(charges(core(row, rods), rods), charges(row, rods))

    def test_sizes_and_kinds(self):
        for row in rows_for_rods():
            for rods in ALL_RODS:
                rows = quotient(row, rods)
                self.assertEqual(len(rows), rods)
                self.assertTrue(all(is_row(one) for one in rows + [core(row, rods)]))
                self.assertEqual(sum(row), sum(core(row, rods)) + rods * sum(sum(one) for one in rows))
                self.assertEqual(len(charges(row, rods)), rods)
                self.assertEqual(sum(charges(row, rods)), 0)
                told = numbers_within([rows, core(row, rods), charges(row, rods)])
                self.assertTrue(all(type(number) is int for number in told))

    def test_wrong_counts_of_rods(self):
        for call in ASKED_OF_ROWS:
            for rods in WRONG_RODS:
                for row in ([], [1], [4, 2, 2], [60], [1] * 60):
                    before = list(row)
                    self.assert_refused("NoRods", call, row, rods)
                    self.assertEqual(row, before)

    def test_what_is_told_is_the_askers_own(self):
        for row in ([], [1], [2, 1], [4, 2, 2], [3, 3, 3], [7] * 8, [60], [1] * 60):
            for rods in ALL_RODS:
                for call in ASKED_OF_ROWS:
                    self.assert_askers_own(call, row, rods)
                    self.assert_not_kept(call, list(row), rods)


class TurnedTest(unittest.TestCase):
    def test_the_turned_rows_quotient_and_charges(self):
        for row in rows_for_rods():
            for rods in ALL_RODS:
                self.assertEqual(quotient(turned(row), rods), [turned(one) for one in quotient(row, rods)][::-1])
                self.assertEqual(charges(turned(row), rods), [-charge for charge in charges(row, rods)][::-1])
                self.assertEqual(core(turned(row), rods), turned(core(row, rods)))


class HooksTest(unittest.TestCase):
    def test_a_core_has_no_hook_that_is_a_multiple(self):
        for row in rows_for_rods():
            for rods in ALL_RODS:
                self.assertIs(is_core(row, rods), all(hook % rods != 0 for hook in all_hooks(row)), (row, rods))

    def test_the_hooks_that_are_multiples_are_those_of_the_quotient(self):
        for row in rows_for_rods():
            for rods in ALL_RODS:
                multiples_here = [hook for hook in all_hooks(row) if hook % rods == 0]
                told = [rods * hook for one in quotient(row, rods) for hook in all_hooks(one)]
                self.assertEqual(sorted(multiples_here), sorted(told), (row, rods))


class CoreOfTest(Refusals):
    def test_told_values(self):
        self.assertEqual(core_of([0]), [])
        self.assertEqual(core_of([0] * 8), [])
        self.assertEqual(core_of([1, -1, 0]), [1, 1])
        self.assertEqual(core_of([1, -1]), [1])
        self.assertEqual(core_of([-1, 1]), [2, 1])
        self.assertEqual(core_of([6, -6]), list(range(11, 0, -1)))
        self.assertEqual(core_of([-6, 6]), list(range(12, 0, -1)))

    def test_the_charges_of_the_core_are_the_list_again(self):
        for numbers in charge_lists():
            row = core_of(numbers)
            self.assertTrue(is_row(row))
            self.assertEqual(charges(row, len(numbers)), numbers)
            self.assertIs(is_core(row, len(numbers)), True)
            self.assertTrue(all(type(number) is int for number in row))

    def test_its_size(self):
        for numbers in charge_lists():
            rods = len(numbers)
            twice = sum(rods * c * c + 2 * k * c for k, c in enumerate(numbers))
            self.assertEqual(2 * sum(core_of(numbers)), twice, numbers)

    def test_against_beads_slid_down(self):
        for numbers in charge_lists():
            rods = len(numbers)
            for more in (6, 9):
                places = sorted(h * rods + k for k, c in enumerate(numbers) for h in range(more + c))
                self.assertEqual(core_of(numbers), row_by_count(places))

    def test_unlike_charges_are_of_unlike_cores(self):
        lists = [list(n) for n in itertools.product(range(-4, 5), repeat=4) if sum(n) == 0]
        self.assertEqual(len({tuple(core_of(numbers)) for numbers in lists}), len(lists))

    def test_the_core_of_a_rows_charges_is_its_core(self):
        for row in rows_for_rods():
            for rods in ALL_RODS:
                self.assertEqual(core_of(charges(row, rods)), core(row, rods))

    def test_charges_beyond_6_are_not_refused(self):
        self.assertEqual(core_of([8, -8]), list(range(15, 0, -1)))
        self.assertEqual(charges(core_of([7, 0, -9, 2]), 4), [7, 0, -9, 2])

    def test_no_number_and_nine_numbers(self):
        for numbers in ([], [0] * 9, [1, -1] + [0] * 7, [0] * 10):
            before = list(numbers)
            self.assert_refused("NoRods", core_of, numbers)
            self.assertEqual(numbers, before)

    def test_numbers_that_do_not_come_to_nought(self):
        for numbers in ([1], [-1], [6], [1, 1], [0, -1], [6, -5], [1, -1, 1], [6] * 8, [-6] * 8, [0] * 7 + [1]):
            before = list(numbers)
            self.assert_refused("NoCharges", core_of, numbers)
            self.assertEqual(numbers, before)

    def test_both_due_at_once(self):
        for numbers in ([1] * 9, [0] * 8 + [-1], [6] * 10):
            self.assert_refused("NoRods", core_of, numbers)

    def test_what_is_told_is_the_askers_own(self):
        for numbers in ([0], [0, 0], [1, -1], [3, -4, 1]):
            self.assert_askers_own(core_of, numbers)
            self.assert_not_kept(core_of, list(numbers))


class JoinedTest(Refusals):
    def test_told_values(self):
        self.assertEqual(joined([], [[]], 1), [])
        self.assertEqual(joined([], [[4, 2, 2]], 1), [4, 2, 2])
        self.assertEqual(joined([1, 1], [[1, 1], [], []], 3), [4, 2, 2])
        self.assertEqual(joined([2, 1], [[], []], 2), [2, 1])

    def test_core_and_quotient_joined_give_the_row(self):
        for row in rows_for_rods():
            for rods in ALL_RODS:
                self.assertEqual(joined(core(row, rods), quotient(row, rods), rods), row, rods)

    def test_a_joined_row_has_what_it_was_made_of(self):
        for rods in ALL_RODS:
            for middle in small_cores(rods):
                for rows in quotients_to_join(rods):
                    row = joined(middle, rows, rods)
                    self.assertTrue(is_row(row))
                    self.assertEqual(core(row, rods), middle)
                    self.assertEqual(quotient(row, rods), rows)
                    self.assertEqual(charges(row, rods), charges(middle, rods))
                    self.assertEqual(sum(row), sum(middle) + rods * sum(sum(one) for one in rows))

    def test_a_row_that_is_no_core(self):
        for middle, rods in (([1], 1), ([2], 2), ([1, 1], 2), ([4, 2, 2], 3), ([8], 8), ([60], 7), ([1] * 60, 8)):
            rows = [[] for k in range(rods)]
            self.assert_refused("NoCore", joined, middle, rows, rods)
        for rods in ALL_RODS:
            for size in range(8):
                for middle in rows_of_size(size):
                    if any(hook % rods == 0 for hook in all_hooks(middle)):
                        self.assert_refused("NoCore", joined, middle, [[1]] * rods, rods)

    def test_not_as_many_rows_as_rods(self):
        for rods in ALL_RODS:
            for many in (0, rods - 1, rods + 1, 9):
                for middle in small_cores(rods)[:3]:
                    self.assert_refused("NoQuotient", joined, middle, [[2, 1]] * many, rods)
                    self.assert_refused("NoQuotient", joined, middle, [[]] * many, rods)

    def test_wrong_counts_of_rods(self):
        for rods in WRONG_RODS:
            self.assert_refused("NoRods", joined, [], [], rods)
            self.assert_refused("NoRods", joined, [], [[]], rods)
        self.assert_refused("NoRods", joined, [], [[]] * 9, 9)

    def test_several_refusals_due_at_once(self):
        self.assert_refused("NoRods", joined, [9], [[]] * 9, 9)
        self.assert_refused("NoRods", joined, [], [[]], 9)
        self.assert_refused("NoRods", joined, [4, 2, 2], [[1]], 0)
        self.assert_refused("NoRods", joined, [9], [], 9)
        self.assert_refused("NoRods", joined, [3], [[]], -3)
        self.assert_refused("NoCore", joined, [3], [[], []], 3)
        self.assert_refused("NoCore", joined, [1], [], 1)
        self.assert_refused("NoCore", joined, [8], [[]] * 9, 8)

    def test_a_refusal_changes_nothing(self):
        for middle, rows, rods in (([3], [[1], []], 3), ([], [[1], [2]], 9), ([1], [[2], [1], [1]], 2)):
            before = deep_copy((middle, rows))
            with self.assertRaises(ValueError):
                joined(middle, rows, rods)
            self.assertEqual((middle, rows), before)

    def test_what_is_told_is_the_askers_own(self):
        for middle, rows, rods in (
            ([], [[]], 1), ([], [[4, 2, 2]], 1), ([2, 1], [[], []], 2), ([1, 1], [[1, 1], [], []], 3),
            ([1], [[], [3, 1], [2], [1]], 4),
        ):
            self.assert_askers_own(joined, middle, rows, rods)
            self.assert_not_kept(joined, list(middle), deep_copy(rows), rods)

    def test_one_list_handed_in_several_times(self):
        same = [2, 1]
        self.assertEqual(joined(same, [same, same], 2), joined([2, 1], [[2, 1], [2, 1]], 2))
        self.assertEqual(same, [2, 1])


if __name__ == "__main__":
    unittest.main()
