"""Rims taken off a row: the rows with a rim less, the sign, and the orders down to the core."""

from rodbeads.counts import fillings, product_to
from rodbeads.rods import check_rods, quotient
from rodbeads.rows import hooks, lines_at


def lesser(row, rods):
    check_rods(rods)
    found = []
    for line, numbers in enumerate(hooks(row)):
        if rods in numbers:
            found.append(without_rim(row, line, numbers.index(rods)))
    return list(reversed(found))


def without_rim(row, line, place):
    last = lines_at(row, place) - 1
    moved = [number - 1 for number in row[line + 1:last + 1]]
    numbers = row[:line] + moved + [place] + row[last + 1:]
    return ([number for number in numbers if number > 0], last - line)


def sign(row, rods):
    legs = 0
    found = lesser(row, rods)
    # Whatever cells are chosen, the legs are even or odd alike; so the first will do.
    while found:
        legs += found[0][1]
        found = lesser(found[0][0], rods)
    return 1 if legs % 2 == 0 else -1


def ways_down(row, rods):
    rows = quotient(row, rods)
    ways = mixes([sum(numbers) for numbers in rows])
    for numbers in rows:
        ways = ways * fillings(numbers)
    return ways


def mixes(sizes):
    # Among all orders of the cells, those that differ only within one row are one mix.
    ways = product_to(sum(sizes))
    for size in sizes:
        ways = ways // product_to(size)
    return ways
