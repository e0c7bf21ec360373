import unittest

from rodbeads.beads import beads, pairs, row_of
from rodbeads.rows import hooks, is_row, turned
from tests.samples import (
    Refusals, all_rows, bead_counts, bead_lists, bead_lists_beyond, pairs_by_count, row_by_count, small_rows,
    wrong_bead_lists,
)


class BeadsTest(Refusals):
    def test_told_values(self):
        self.assertEqual(beads([], 0), [])
        self.assertEqual(beads([], 1), [0])
        self.assertEqual(beads([], 4), [0, 1, 2, 3])
        self.assertEqual(beads([], 80), list(range(80)))
        self.assertEqual(beads([1], 1), [1])
        self.assertEqual(beads([4, 2, 2], 3), [2, 3, 6])
        self.assertEqual(beads([4, 2, 2], 4), [0, 3, 4, 7])
        self.assertEqual(beads([60], 1), [60])
        self.assertEqual(beads([60], 80), list(range(79)) + [139])
        self.assertEqual(beads([1] * 60, 60), list(range(1, 61)))
        self.assertEqual(beads([1] * 60, 80), list(range(20)) + list(range(21, 81)))

    def test_so_many_places_rising_from_nought_that_tell_the_row(self):
        for row in all_rows():
            for many in bead_counts(row):
                told = beads(row, many)
                self.assertEqual(len(told), many)
                self.assertEqual(told, sorted(set(told)))
                self.assertTrue(all(place >= 0 for place in told))
                self.assertEqual(row_by_count(told), row)

    def test_one_bead_too_few_is_refused(self):
        for row in all_rows():
            if row:
                self.assert_refused("TooFew", beads, row, len(row) - 1)

    def test_far_too_few_are_refused(self):
        for row, many in (([4, 2, 2], 1), ([4, 2, 2], 0), ([1] * 60, 0), ([1], 0), ([4, 2, 2], -1), ([], -1)):
            self.assert_refused("TooFew", beads, row, many)

    def test_more_than_80_beads_are_not_refused(self):
        self.assertEqual(beads([3, 1], 90), list(range(88)) + [89, 92])

    def test_the_row_is_as_it_was(self):
        for row in all_rows():
            before = list(row)
            beads(row, len(row))
            beads(row, len(row) + 3)
            self.assertEqual(row, before)

    def test_a_refusal_changes_nothing(self):
        row = [4, 2, 2]
        self.assert_refused("TooFew", beads, row, 2)
        self.assertEqual(row, [4, 2, 2])
        self.assertEqual(beads(row, 3), [2, 3, 6])

    def test_a_told_list_is_the_askers_own(self):
        for row, many in (([], 0), ([], 3), ([7], 1), ([4, 2, 2], 3), ([4, 2, 2], 5)):
            before = list(row)
            told = beads(row, many)
            right = list(told)
            told.insert(0, 99)
            self.assertEqual(row, before)
            self.assertEqual(beads(row, many), right)

    def test_what_was_handed_in_is_not_kept(self):
        row = [4, 2, 2]
        told = beads(row, 3)
        row[0] = 2
        self.assertEqual(told, [2, 3, 6])
        self.assertEqual(beads(row, 3), [2, 3, 4])


class RowOfTest(Refusals):
    def test_told_values(self):
        self.assertEqual(row_of([]), [])
        self.assertEqual(row_of([0]), [])
        self.assertEqual(row_of([0, 1, 2]), [])
        self.assertEqual(row_of([1]), [1])
        self.assertEqual(row_of([1, 2, 3]), [1, 1, 1])
        self.assertEqual(row_of([200]), [200])
        self.assertEqual(row_of([0, 200]), [199])
        self.assertEqual(row_of([2, 3, 6]), [4, 2, 2])
        self.assertEqual(row_of([0, 3, 4, 7]), [4, 2, 2])
        self.assertEqual(row_of(list(range(121, 201))), [121] * 80)

    def test_against_a_count_of_lesser_places(self):
        for places in bead_lists() + bead_lists_beyond():
            self.assertEqual(row_of(places), row_by_count(places), places)
            self.assertTrue(is_row(row_of(places)))

    def test_the_row_of_a_rows_beads_is_the_row(self):
        for row in all_rows():
            for many in bead_counts(row):
                self.assertEqual(row_of(beads(row, many)), row)

    def test_the_beads_of_the_row_of_beads_are_the_beads(self):
        for places in bead_lists():
            self.assertEqual(beads(row_of(places), len(places)), places)

    def test_wrong_places_are_refused_and_left_as_they_were(self):
        for places in wrong_bead_lists():
            before = list(places)
            self.assert_refused("NoBeads", row_of, places)
            self.assertEqual(places, before)

    def test_the_list_is_as_it_was(self):
        for places in bead_lists():
            before = list(places)
            row_of(places)
            self.assertEqual(places, before)

    def test_a_told_list_is_the_askers_own(self):
        for places in ([], [0, 1], [1], [2, 3, 6]):
            before = list(places)
            told = row_of(places)
            right = list(told)
            told.append(99)
            self.assertEqual(places, before)
            self.assertEqual(row_of(places), right)

    def test_what_was_handed_in_is_not_kept(self):
        places = [2, 3, 6]
        told = row_of(places)
        places[2] = 4
        self.assertEqual(told, [4, 2, 2])
        self.assertEqual(row_of(places), [2, 2, 2])


class PairsTest(Refusals):
    def test_told_values(self):
        self.assertEqual(pairs([]), [])
        self.assertEqual(pairs([0, 1, 2]), [])
        self.assertEqual(pairs([2]), [(2, 0), (2, 1)])
        self.assertEqual(pairs([1, 2]), [(1, 0), (2, 0)])
        self.assertEqual(pairs([0, 3]), [(3, 1), (3, 2)])
        self.assertEqual(pairs([2, 3, 6]), [(2, 0), (2, 1), (3, 0), (3, 1), (6, 0), (6, 1), (6, 4), (6, 5)])
        self.assertEqual(pairs([200]), [(200, place) for place in range(200)])

    def test_against_all_beads_and_lesser_places(self):
        for places in bead_lists() + bead_lists_beyond():
            self.assertEqual(pairs(places), pairs_by_count(places), places)

    def test_each_pair_is_a_tuple(self):
        for pair in pairs([0, 2, 5]):
            self.assertIs(type(pair), tuple)
            self.assertEqual(len(pair), 2)

    def test_as_many_pairs_as_cells_and_their_differences_are_the_hooks(self):
        for row in all_rows():
            all_hooks = sorted(hook for line in hooks(row) for hook in line)
            for many in bead_counts(row):
                told = pairs(beads(row, many))
                self.assertEqual(len(told), sum(row))
                self.assertEqual(sorted(bead - place for bead, place in told), all_hooks, (row, many))

    def test_wrong_places_are_refused_and_left_as_they_were(self):
        for places in wrong_bead_lists():
            before = list(places)
            self.assert_refused("NoBeads", pairs, places)
            self.assertEqual(places, before)

    def test_the_list_is_as_it_was(self):
        for places in bead_lists():
            before = list(places)
            pairs(places)
            self.assertEqual(places, before)

    def test_a_told_list_is_the_askers_own(self):
        for places in ([], [0, 1], [2, 3, 6]):
            before = list(places)
            told = pairs(places)
            right = list(told)
            told.append((9, 9))
            self.assertEqual(places, before)
            self.assertEqual(pairs(places), right)

    def test_what_was_handed_in_is_not_kept(self):
        places = [1, 3]
        told = pairs(places)
        places.append(5)
        self.assertEqual(told, [(1, 0), (3, 0), (3, 2)])
        self.assertEqual(pairs(places), [(1, 0), (3, 0), (3, 2), (5, 0), (5, 2), (5, 4)])


class WholeNumbersTest(unittest.TestCase):
    def test_everything_told_is_whole_numbers_in_lists(self):
        for row in small_rows():
            places = beads(row, len(row) + 2)
            told = [places, row_of(places), turned(row)] + hooks(row) + [list(pair) for pair in pairs(places)]
            for numbers in told:
                self.assertIs(type(numbers), list)
                self.assertTrue(all(type(number) is int for number in numbers))


if __name__ == "__main__":
    unittest.main()
