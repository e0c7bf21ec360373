"""Beads on one rod: the places that tell a row, the row that places tell, and their pairs."""

from rodbeads.errors import NoBeads, TooFew


def beads(row, many):
    spare = many - len(row)
    if spare < 0:
        raise TooFew("there are fewer beads than the row has numbers")
    # Beads that tell a nought lie lowest, without a gap; the row's last number comes next.
    gaps = [0] * spare + list(reversed(row))
    return [lower + gap for lower, gap in enumerate(gaps)]


def row_of(places):
    check_places(places)
    # So many beads lie lower as stand ahead in the list; the other lesser places have none.
    gaps = [place - lower for lower, place in enumerate(places)]
    return [gap for gap in reversed(gaps) if gap > 0]


def pairs(places):
    check_places(places)
    found = []
    free = []
    unseen = 0
    for bead in places:
        free.extend(list(range(unseen, bead)))
        found.extend([(bead, place) for place in free])
        unseen = bead + 1
    return found


def check_places(places):
    # One below the least place, so that a first place below nought fails to rise too.
    last = -1
    for place in places:
        if place <= last:
            raise NoBeads("the places do not rise from nought on")
        last = place
