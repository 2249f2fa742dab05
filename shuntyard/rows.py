"""Rising rows, falling rows, and parts of a row."""


def is_rising(row):
    for place in range(1, len(row)):
        if row[place] <= row[place - 1]:
            return False
    return True


def is_falling(row):
    for place in range(1, len(row)):
        if row[place] >= row[place - 1]:
            return False
    return True


# Taking each wagon of the part at its first chance leaves the most of the row for the rest.
def stands_in(part, row):
    found = 0
    for wagon in row:
        if found < len(part) and wagon == part[found]:
            found = found + 1
    return found == len(part)
