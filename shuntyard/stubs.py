"""Stubs: the wagons that cross, and plans for one stub and for two, or why there is none."""

from shuntyard.tracks import ENTERING
from shuntyard.tracks import LEAVING


def crossing(row):
    pairs = []
    for place in range(len(row)):
        # The last wagon of the row has none behind it and so crosses nobody.
        for other in range(place + 1, len(row) - 1):
            if row[place] < row[other] and min(row[other + 1:]) < row[place]:
                pairs.append((row[place], row[other]))
    return pairs


# A wagon leaves as soon as all lesser ones have left. One that still stands then waits for a lesser one that has yet
# to enter, so it would cross a greater one that enters behind it: where no two on a stub cross, the least is on top.
def stub_plan(row, stub_of):
    order = sorted(row)
    entered = {}
    deeds = []
    left = 0
    for wagon in row:
        deeds.append((ENTERING, stub_of[wagon]))
        entered[wagon] = True
        while left < len(order) and order[left] in entered:
            deeds.append((LEAVING, stub_of[order[left]]))
            left = left + 1
    return deeds


def one_stub(row):
    pairs = crossing(row)
    if len(pairs) > 0:
        return ("stuck", with_a_lesser_behind(row, pairs[0]))
    stub_of = {}
    for wagon in row:
        stub_of[wagon] = 0
    return ("plan", stub_plan(row, stub_of))


def with_a_lesser_behind(row, pair):
    behind = row[row.index(pair[1]) + 1:]
    return [pair[0], pair[1], min(behind)]


def two_stubs(row):
    crossed = crossed_by_each(row)
    stub_of = {}
    for wagon in row:
        if wagon not in stub_of:
            ring = part_from(wagon, crossed, stub_of)
            if len(ring) > 0:
                return ("ring", ring)
    return ("plan", stub_plan(row, stub_of))


def crossed_by_each(row):
    crossed = {}
    for wagon in row:
        crossed[wagon] = []
    for ahead, other in crossing(row):
        crossed[ahead].append(other)
        crossed[other].append(ahead)
    return crossed


# Gives a stub to the first wagon and to all that hang together with it, the nearest first. A ring is given back where
# two that cross would have to share a stub, and an empty list where none do.
def part_from(first, crossed, stub_of):
    stub_of[first] = 0
    found_by = {}
    found = [first]
    done = 0
    while done < len(found):
        wagon = found[done]
        done = done + 1
        for other in crossed[wagon]:
            if other not in stub_of:
                stub_of[other] = 1 - stub_of[wagon]
                found_by[other] = wagon
                found.append(other)
            elif stub_of[other] == stub_of[wagon]:
                return ring_through(wagon, other, found_by)
    return []


# Two wagons that cross and share a stub were found in the same number of steps, since the nearest are found first.
# So the two ways back, walked step by step together, meet, and no wagon stands in both but the one where they meet.
def ring_through(wagon, other, found_by):
    way = [wagon]
    other_way = [other]
    while way[-1] != other_way[-1]:
        way.append(found_by[way[-1]])
        other_way.append(found_by[other_way[-1]])
    return way + list(reversed(other_way[:-1]))
