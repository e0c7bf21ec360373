"""Rows and bead lists that the tests share, and slow reckonings straight from the document's words."""

ERROR_NAMES = ("TooFew", "NoBeads", "NoRods", "NoCore", "NoQuotient", "NoCharges", "NoNote")


def rows_of_size(size, most=None):
    if size == 0:
        return [[]]
    found = []
    for first in range(min(size, size if most is None else most), 0, -1):
        found.extend([first] + rest for rest in rows_of_size(size - first, first))
    return found


def small_rows():
    return [row for size in range(11) for row in rows_of_size(size)]


def large_rows():
    return [
        [60], [1] * 60, [30, 30], [2] * 30, [10] * 6, [6] * 10, [31] + [1] * 29,
        [10, 9, 8, 7, 6, 5, 4, 3, 2, 1], [11, 11, 9, 9, 9, 4, 4, 1, 1, 1],
        [20, 13, 13, 5, 3, 2, 2, 1, 1], [59, 1], [2] + [1] * 58, [15, 15, 15, 15],
    ]


def rows_beyond():
    return [[64], [1] * 64, [9] * 8, [40, 20, 5, 1]]


def all_rows():
    return small_rows() + large_rows() + rows_beyond()


def bead_lists():
    return [
        [], [0], [1], [200], [0, 1, 2, 3], [1, 2, 3], [0, 2, 4, 6], [3, 7, 8, 20], [0, 200], [0, 1, 5, 6, 7, 11],
        list(range(80)), list(range(121, 201)), list(range(0, 160, 2)), list(range(1, 161, 2)),
        [k * k for k in range(15)], list(range(40)) + list(range(161, 201)),
    ]


def bead_lists_beyond():
    return [[230], list(range(90)), list(range(2, 212, 2))]


def wrong_bead_lists():
    return [
        [0, 0], [4, 4], [1, 2, 2, 3], [1, 3, 5, 5], [200, 200], [1, 0], [2, 1, 5], [0, 2, 1, 5], [0, 1, 5, 2],
        [-1], [-1, 0, 1], [-3, -2, 4], [-200], [3, -1], [0, 1, 2, -1], list(range(79)) + [78],
        list(range(80, 0, -1)), [-1, -1],
    ]


def cells(row):
    return [(line, place) for line, number in enumerate(row) for place in range(number)]


def hook_by_count(row, line, place):
    behind = [cell for cell in cells(row) if cell[0] == line and cell[1] > place]
    below = [cell for cell in cells(row) if cell[0] > line and cell[1] == place]
    return len(behind) + len(below) + 1


def row_by_count(places):
    counts = [len([p for p in range(bead) if p not in places]) for bead in reversed(places)]
    return [count for count in counts if count != 0]


def pairs_by_count(places):
    return sorted((bead, p) for bead in places for p in range(bead) if p not in places)


def bead_counts(row):
    return sorted({len(row), len(row) + 1, len(row) + 2, len(row) + 7, max(len(row), 80)})
