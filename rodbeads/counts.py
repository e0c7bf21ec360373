"""How many there are: fillings of a row, rows and cores of so many cells, lists of rows."""

from rodbeads.rods import check_rods, is_core
from rodbeads.rows import hooks


def fillings(row):
    divisor = 1
    for line in hooks(row):
        for hook in line:
            divisor = divisor * hook
    return product_to(sum(row)) // divisor


def product_to(number):
    product = 1
    for factor in range(1, number + 1):
        product = product * factor
    return product


def rows_of(many):
    return rows_within(many, many)


def rows_within(many, most):
    if many == 0:
        return [[]]
    found = []
    for first in range(min(many, most), 0, -1):
        found.extend([[first] + rest for rest in rows_within(many - first, first)])
    return found


def many_rows(many):
    return many_quotients(1, many)


def many_quotients(rods, many):
    check_rods(rods)
    if many < 0:
        return 0
    return quotient_counts(rods, many)[many]


def quotient_counts(rods, most):
    counts = [1] + [0] * most
    for rod in range(rods):
        for number in range(1, most + 1):
            # Rising sizes, so that a list may take the same number again and again.
            for cells in range(number, most + 1):
                counts[cells] += counts[cells - number]
    return counts


def cores_of(many, rods):
    check_rods(rods)
    return [row for row in rows_of(many) if is_core(row, rods)]


def many_cores(many, rods):
    check_rods(rods)
    if many < 0:
        return 0
    rounds = many // rods
    lists = quotient_counts(rods, rounds)
    rows = quotient_counts(1, many)
    cores = []
    # Of all rows of so many cells, those with any cell in their quotient are no cores.
    for step in range(rounds + 1):
        others = sum([cores[step - taken] * lists[taken] for taken in range(1, step + 1)])
        cores.append(rows[many - (rounds - step) * rods] - others)
    return cores[rounds]
