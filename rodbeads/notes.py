"""Rows as texts: written with a plus between two numbers, and read again."""

from rodbeads.errors import NoNote
from rodbeads.rows import is_row

MOST_CELLS = 60


def written(row):
    if not row:
        return "0"
    return "+".join([str(number) for number in row])


def read(text):
    if text == "0":
        return []
    # Each part is compared with the numbers as they are written: reading it first would let blanks,
    # signs and needless noughts through, and a very long number would fail.
    known = [str(number) for number in range(1, MOST_CELLS + 1)]
    row = []
    for part in text.split("+"):
        if part not in known:
            raise NoNote("a part of the text is no number from 1 to 60")
        row.append(int(part))
    if not is_row(row):
        raise NoNote("the numbers of the text do not fall")
    if sum(row) > MOST_CELLS:
        raise NoNote("the text writes a row of more than 60 cells")
    return row
