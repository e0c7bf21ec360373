"""Rows parted to rods: their core, quotient and charges, and the row that a core and a quotient make."""

from rodbeads.beads import beads, row_of
from rodbeads.errors import NoCharges, NoCore, NoQuotient, NoRods


def core(row, rods):
    return core_of(charges(row, rods))


def quotient(row, rods):
    check_rods(rods)
    return [row_of(heights) for heights in parted(row, rods)]


def is_core(row, rods):
    return core(row, rods) == row


def charges(row, rods):
    check_rods(rods)
    return [len(heights) - share(row, rods) for heights in parted(row, rods)]


def core_of(numbers):
    check_rods(len(numbers))
    if sum(numbers) != 0:
        raise NoCharges("the charges do not come to nought")
    return laid(numbers, [[] for number in numbers])


def joined(middle, rows, rods):
    check_rods(rods)
    if not is_core(middle, rods):
        raise NoCore("the row is no core by so many rods")
    if len(rows) != rods:
        raise NoQuotient("there are not as many rows as rods")
    return laid(charges(middle, rods), rows)


def check_rods(rods):
    if rods < 1 or rods > 8:
        raise NoRods("the count of rods is not 1 to 8")


def share(row, rods):
    # Beads for each rod, rounded up, so that all together are a multiple of the rods and suffice for the row.
    return (len(row) + rods - 1) // rods


def parted(row, rods):
    places = beads(row, share(row, rods) * rods)
    return [heights_on(places, rods, rod) for rod in range(rods)]


def heights_on(places, rods, rod):
    return [place // rods for place in places if place % rods == rod]


def laid(numbers, rows):
    rods = len(rows)
    # The least share by which no rod has fewer beads than its row has numbers.
    least = max([len(row) - number for row, number in zip(rows, numbers)])
    places = []
    for rod, row in enumerate(rows):
        heights = beads(row, least + numbers[rod])
        places.extend([height * rods + rod for height in heights])
    return row_of(sorted(places))
