import unittest

from rodbeads.counts import fillings
from rodbeads.rims import lesser, sign, ways_down
from rodbeads.rods import core, quotient
from rodbeads.rows import is_row, turned
from tests.samples import (
    ALL_RODS, WRONG_RODS, Refusals, beads_by_words, cells, hook_by_count, numbers_within, row_by_count, rows_for_rods,
    rows_of_size,
)


def lesser_by_words(row, rods):
    """Point 11 done line by line, for each cell with this hook, the cell of the last line first."""
    found = []
    for k, j in sorted(cells(row), reverse=True):
        if hook_by_count(row, k, j) != rods:
            continue
        less = list(row)
        line = k
        while line + 1 < len(row) and row[line + 1] > j:
            less[line] = row[line + 1] - 1
            line += 1
        less[line] = j
        lines = [number for number in range(len(row)) if less[number] < row[number]]
        found.append(([number for number in less if number > 0], len(lines) - 1))
    return found


def lesser_by_beads(row, rods):
    """One bead goes down by so many places as there are rods; the least bead is of the last line."""
    places = beads_by_words(row, len(row))
    found = []
    for bead in places:
        if bead >= rods and bead - rods not in places:
            past = [place for place in places if bead - rods < place < bead]
            moved = sorted([place for place in places if place != bead] + [bead - rods])
            found.append((row_by_count(moved), len(past)))
    return found


def choices():
    return (
        lambda found, step: found[0],
        lambda found, step: found[-1],
        lambda found, step: found[len(found) // 2],
        lambda found, step: found[step % len(found)],
        lambda found, step: max(found, key=lambda pair: pair[1]),
    )


def taken_down(row, rods, choose):
    rims, legs = 0, 0
    found = lesser(row, rods)
    while found:
        row, more = choose(found, rims)
        rims += 1
        legs += more
        found = lesser(row, rods)
    return row, rims, legs


def orders_by_walk(row, rods):
    found = lesser_by_words(row, rods)
    return sum(orders_by_walk(less, rods) for less, legs in found) if found else 1


class LesserTest(Refusals):
    def test_told_values(self):
        self.assertEqual(lesser([], 1), [])
        self.assertEqual(lesser([1], 1), [([], 0)])
        self.assertEqual(lesser([1, 1], 2), [([], 1)])
        self.assertEqual(lesser([4, 2, 2], 1), [([4, 2, 1], 0), ([3, 2, 2], 0)])
        self.assertEqual(lesser([4, 2, 2], 2), [([4, 2], 0), ([4, 1, 1], 1), ([2, 2, 2], 0)])
        self.assertEqual(lesser([4, 2, 2], 6), [([1, 1], 2)])
        self.assertEqual(lesser([60], 8), [([52], 0)])
        self.assertEqual(lesser([1] * 60, 8), [([1] * 52, 7)])

    def test_line_by_line(self):
        for row in rows_for_rods():
            for rods in ALL_RODS:
                self.assertEqual(lesser(row, rods), lesser_by_words(row, rods), (row, rods))

    def test_against_beads(self):
        for row in rows_for_rods():
            for rods in ALL_RODS:
                self.assertEqual(lesser(row, rods), lesser_by_beads(row, rods), (row, rods))

    def test_rows_without_such_a_cell(self):
        for row, rods in (([], 8), ([2, 1], 2), ([4, 2, 2], 4), ([4, 2, 2], 8), ([3], 4), ([5, 3, 1, 1], 3)):
            self.assertEqual(lesser(row, rods), [], (row, rods))

    def test_kinds_and_sizes(self):
        for row in rows_for_rods():
            for rods in ALL_RODS:
                told = lesser(row, rods)
                self.assertIs(type(told), list)
                for pair in told:
                    self.assertIs(type(pair), tuple)
                    self.assertEqual(len(pair), 2)
                    self.assertIs(type(pair[0]), list)
                    self.assertTrue(is_row(pair[0]))
                    self.assertEqual(sum(pair[0]), sum(row) - rods)
                    self.assertEqual(core(pair[0], rods), core(row, rods))
                self.assertTrue(all(type(number) is int for number in numbers_within(told)))

    def test_wrong_counts_of_rods(self):
        for rods in WRONG_RODS:
            for row in ([], [1], [9], [4, 2, 2], [60]):
                before = list(row)
                self.assert_refused("NoRods", lesser, row, rods)
                self.assertEqual(row, before)

    def test_what_is_told_is_the_askers_own(self):
        for row in ([], [1], [3, 2, 1], [4, 2, 2], [4, 4, 4], [1] * 9):
            for rods in ALL_RODS:
                self.assert_askers_own(lesser, row, rods)
                self.assert_not_kept(lesser, list(row), rods)


class SignTest(Refusals):
    def test_told_values(self):
        self.assertEqual(sign([], 1), 1)
        self.assertEqual(sign([2], 2), 1)
        self.assertEqual(sign([1, 1], 2), -1)
        self.assertEqual(sign([1, 1, 1], 3), 1)
        self.assertEqual(sign([2, 1], 3), -1)
        self.assertEqual(sign([4, 2, 2], 3), -1)
        self.assertEqual(sign([1] * 60, 4), -1)
        self.assertEqual(sign([1] * 56, 4), 1)

    def test_rims_in_several_orders_leave_the_core(self):
        for row in rows_for_rods():
            for rods in ALL_RODS:
                many = sum(sum(one) for one in quotient(row, rods))
                for choose in choices():
                    left, rims, legs = taken_down(row, rods, choose)
                    self.assertEqual(left, core(row, rods))
                    self.assertEqual(rims, many)
                    self.assertEqual(sign(row, rods), 1 if legs % 2 == 0 else -1, (row, rods))

    def test_by_the_order_of_the_beads(self):
        # Each bead keeps to its rod; how often two beads change their order decides the sign.
        for row in rows_for_rods():
            for rods in ALL_RODS:
                seen = [0] * rods
                ends = []
                for place in beads_by_words(row, len(row)):
                    ends.append(place % rods + rods * seen[place % rods])
                    seen[place % rods] += 1
                swaps = sum(1 for k, end in enumerate(ends) for other in ends[k + 1:] if other < end)
                self.assertEqual(sign(row, rods), 1 if swaps % 2 == 0 else -1, (row, rods))

    def test_by_one_rod_and_for_cores_it_is_1(self):
        for row in rows_for_rods():
            self.assertEqual(sign(row, 1), 1)
            for rods in ALL_RODS:
                self.assertEqual(sign(core(row, rods), rods), 1)
                self.assertIs(type(sign(row, rods)), int)

    def test_wrong_counts_of_rods(self):
        for rods in WRONG_RODS:
            for row in ([], [1], [4, 2, 2], [60]):
                self.assert_refused("NoRods", sign, row, rods)

    def test_the_row_is_as_it_was(self):
        for row in ([], [1], [4, 2, 2], [10] * 6):
            for rods in ALL_RODS:
                self.assert_askers_own(sign, row, rods)


class WaysDownTest(Refusals):
    def test_told_values(self):
        self.assertEqual(ways_down([], 1), 1)
        self.assertEqual(ways_down([], 8), 1)
        self.assertEqual(ways_down([4, 2, 2], 1), 56)
        self.assertEqual(ways_down([4, 2, 2], 2), 8)
        self.assertEqual(ways_down([4, 2, 2], 3), 1)
        self.assertEqual(ways_down([2, 2], 2), 2)
        self.assertEqual(ways_down([60], 7), 1)

    def test_against_a_walk_over_all_orders(self):
        for size in range(9):
            for row in rows_of_size(size):
                for rods in ALL_RODS:
                    self.assertEqual(ways_down(row, rods), orders_by_walk(row, rods), (row, rods))

    def test_the_sum_over_the_rows_with_a_rim_less(self):
        for row in rows_for_rods():
            for rods in ALL_RODS:
                found = lesser_by_words(row, rods)
                ways = sum(ways_down(less, rods) for less, legs in found) if found else 1
                self.assertEqual(ways_down(row, rods), ways, (row, rods))
                self.assertIs(type(ways_down(row, rods)), int)

    def test_by_one_rod_it_is_the_fillings(self):
        for row in rows_for_rods():
            self.assertEqual(ways_down(row, 1), fillings(row))

    def test_the_turned_row_has_as_many(self):
        for row in rows_for_rods():
            for rods in ALL_RODS:
                self.assertEqual(ways_down(turned(row), rods), ways_down(row, rods))

    def test_wrong_counts_of_rods(self):
        for rods in WRONG_RODS:
            for row in ([], [1], [4, 2, 2], [60]):
                self.assert_refused("NoRods", ways_down, row, rods)

    def test_the_row_is_as_it_was(self):
        for row in ([], [1], [4, 2, 2], [10] * 6):
            for rods in ALL_RODS:
                self.assert_askers_own(ways_down, row, rods)


if __name__ == "__main__":
    unittest.main()
