"""Falling rows: which lists are rows, the turned row, and the hooks of the cells."""


def is_row(numbers):
    for line, number in enumerate(numbers):
        if number < 1:
            return False
        if line > 0 and number > numbers[line - 1]:
            return False
    return True


def turned(row):
    # A row falls, so its first number is how many places have a cell at all.
    width = row[0] if row else 0
    return [lines_at(row, place) for place in range(width)]


def lines_at(row, place):
    return len([number for number in row if number > place])


def hooks(row):
    columns = turned(row)
    return [line_hooks(row, columns, line) for line in range(len(row))]


def line_hooks(row, columns, line):
    found = []
    for place in range(row[line]):
        behind = row[line] - place - 1
        below = columns[place] - line - 1
        found.append(behind + below + 1)
    return found
