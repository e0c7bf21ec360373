"""Rows and bead lists that the tests share, and slow reckonings straight from the document's words."""

import unittest

from rodbeads import errors

ERROR_NAMES = ("TooFew", "NoBeads", "NoRods", "NoCore", "NoQuotient", "NoCharges", "NoNote")
ALL_RODS = range(1, 9)
WRONG_RODS = (0, 9, -1, -8, 10, 16, 10 ** 30, -10 ** 30)


class Refusals(unittest.TestCase):
    def assert_refused(self, name, call, *given):
        with self.assertRaises(ValueError) as caught:
            call(*given)
        self.assertIsInstance(caught.exception, errors.BeadError)
        for other in ERROR_NAMES:
            self.assertEqual(isinstance(caught.exception, getattr(errors, other)), other == name, (given, other))

    def assert_askers_own(self, call, *given):
        """What is handed in stays as it was, and a change of any told list touches nothing else."""
        before = deep_copy(given)
        told = call(*given)
        self.assertEqual(deep_copy(given), before, given)
        lists = lists_within(told)
        handed = {id(one) for one in lists_within(given)}
        self.assertEqual(len({id(one) for one in lists}), len(lists), given)
        self.assertFalse(any(id(one) in handed for one in lists), given)
        right = deep_copy(told)
        for one in lists:
            one.append(99)
        self.assertEqual(deep_copy(given), before, given)
        self.assertEqual(call(*given), right, given)

    def assert_not_kept(self, call, *given):
        """A later change of what was handed in changes nothing of what was told."""
        told = call(*given)
        right = deep_copy(told)
        for one in lists_within(given):
            one.append(1)
        self.assertEqual(told, right)


def lists_within(value):
    if not isinstance(value, (list, tuple)):
        return []
    inner = [one for part in value for one in lists_within(part)]
    return [value] + inner if isinstance(value, list) else inner


def deep_copy(value):
    if isinstance(value, list):
        return [deep_copy(part) for part in value]
    if isinstance(value, tuple):
        return tuple(deep_copy(part) for part in value)
    return value


def numbers_within(value):
    if isinstance(value, (list, tuple)):
        return [number for part in value for number in numbers_within(part)]
    return [value]


def rows_of_size(size, most=None):
    if size == 0:
        return [[]]
    found = []
    for first in range(min(size, size if most is None else most), 0, -1):
        found.extend([first] + rest for rest in rows_of_size(size - first, first))
    return found


def small_rows():
    return [row for size in range(11) for row in rows_of_size(size)]


def large_rows():
    return [
        [60], [1] * 60, [30, 30], [2] * 30, [10] * 6, [6] * 10, [31] + [1] * 29,
        [10, 9, 8, 7, 6, 5, 4, 3, 2, 1], [11, 11, 9, 9, 9, 4, 4, 1, 1, 1],
        [20, 13, 13, 5, 3, 2, 2, 1, 1], [59, 1], [2] + [1] * 58, [15, 15, 15, 15],
    ]


def rows_beyond():
    return [[64], [1] * 64, [9] * 8, [40, 20, 5, 1]]


def middling_rows():
    """Rows of 11 to 60 cells of many shapes, the same ones every time."""
    found = []
    seed = 7
    for size in range(11, 61):
        row, left = [], size
        while left > 0:
            seed = (seed * 1103515245 + 12345) % 2147483648
            most = min([left, 1 + size // 3] + row[-1:])
            row.append(most - (seed // 65536) % (1 + most // 3))
            left -= row[-1]
        found.append(row)
    return found


def rows_for_rods():
    return [row for size in range(9) for row in rows_of_size(size)] + middling_rows() + large_rows() + rows_beyond()


def all_rows():
    return small_rows() + large_rows() + rows_beyond()


def bead_lists():
    return [
        [], [0], [1], [200], [0, 1, 2, 3], [1, 2, 3], [0, 2, 4, 6], [3, 7, 8, 20], [0, 200], [0, 1, 5, 6, 7, 11],
        list(range(80)), list(range(121, 201)), list(range(0, 160, 2)), list(range(1, 161, 2)),
        [k * k for k in range(15)], list(range(40)) + list(range(161, 201)),
    ]


def bead_lists_beyond():
    return [[230], list(range(90)), list(range(2, 212, 2))]


def wrong_bead_lists():
    return [
        [0, 0], [4, 4], [1, 2, 2, 3], [1, 3, 5, 5], [200, 200], [1, 0], [2, 1, 5], [0, 2, 1, 5], [0, 1, 5, 2],
        [-1], [-1, 0, 1], [-3, -2, 4], [-200], [3, -1], [0, 1, 2, -1], list(range(79)) + [78],
        list(range(80, 0, -1)), [-1, -1],
    ]


def cells(row):
    return [(line, place) for line, number in enumerate(row) for place in range(number)]


def hook_by_count(row, line, place):
    behind = [cell for cell in cells(row) if cell[0] == line and cell[1] > place]
    below = [cell for cell in cells(row) if cell[0] > line and cell[1] == place]
    return len(behind) + len(below) + 1


def row_by_count(places):
    taken = set(places)
    counts = [len([p for p in range(bead) if p not in taken]) for bead in reversed(places)]
    return [count for count in counts if count != 0]


def pairs_by_count(places):
    return sorted((bead, p) for bead in places for p in range(bead) if p not in places)


def bead_counts(row):
    return sorted({len(row), len(row) + 1, len(row) + 2, len(row) + 7, max(len(row), 80)})


def beads_by_words(row, many):
    """Goes up the places: a bead lies there as soon as it has as many gaps below it as its number."""
    wanted = [0] * (many - len(row)) + row[::-1]
    places, gaps, place = [], 0, 0
    while len(places) < many:
        if wanted[len(places)] == gaps:
            places.append(place)
        else:
            gaps += 1
        place += 1
    return places


def parted_by_words(row, rods, times):
    """Core, quotient and charges by so many beads as this multiple of the rods, as point 6 tells."""
    places = beads_by_words(row, times * rods)
    on_rods = [[p // rods for p in places if p % rods == rod] for rod in range(rods)]
    slid = sorted(height * rods + rod for rod in range(rods) for height in range(len(on_rods[rod])))
    lens = [len(heights) for heights in on_rods]
    return row_by_count(slid), [row_by_count(heights) for heights in on_rods], [many - times for many in lens]


def multiples(row, rods):
    least = -(-len(row) // rods)
    return (least, least + 1, least + 4)


def all_hooks(row):
    return [row[k] - j + sum(1 for number in row[k + 1:] if number > j) for k, j in cells(row)]
