"""Lanes: a row parted into as few rising rows as can be, and the plan that sorts it on so many lanes."""

from shuntyard.tracks import ENTERING
from shuntyard.tracks import LEAVING


# The last wagons of the rows fall from row to row, so the first row that can take the wagon ends closest below it.
def first_that_takes(rows, wagon):
    for number in range(len(rows)):
        if rows[number][-1] < wagon:
            return number
    return len(rows)


# A wagon goes to a later row only because the row ahead of that one ends with a greater wagon. Followed back from
# the last row, these greater wagons are a wall with one wagon of each row.
def fewest(row):
    rows = []
    greater = {}
    for wagon in row:
        number = first_that_takes(rows, wagon)
        if number == len(rows):
            rows.append([])
        if number > 0:
            greater[wagon] = rows[number - 1][-1]
        rows[number].append(wagon)
    return (rows, wall_of(rows, greater))


def wall_of(rows, greater):
    if len(rows) == 0:
        return []
    wall = [rows[-1][0]]
    while wall[-1] in greater:
        wall.append(greater[wall[-1]])
    wall.reverse()
    return wall


# Each rising row has a lane of its own, so the least wagon still in the yard is always the foremost of its lane.
def lane_plan(row):
    lane_of = {}
    for lane, wagons in enumerate(fewest(row)[0]):
        for wagon in wagons:
            lane_of[wagon] = lane
    entering = [(ENTERING, lane_of[wagon]) for wagon in row]
    leaving = [(LEAVING, lane_of[wagon]) for wagon in sorted(row)]
    return entering + leaving
