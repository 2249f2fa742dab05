"""A yard of lanes and stubs, the two deeds done in it, and plans."""

from shuntyard.errors import NoneWaiting
from shuntyard.errors import NoTrack
from shuntyard.errors import TrackEmpty

LANE = "lane"
ENTERING = "in"
LEAVING = "out"


class Yard:
    # Lists are copied on their way in and out, so that no caller shares one with the yard.
    def __init__(self, kinds, row):
        self.kinds = list(kinds)
        self.queue = list(row)
        self.occupied = [[] for kind in kinds]
        self.departed = []

    # Every deed asks this first: NoTrack goes ahead of the other refusals.
    def check_track(self, track):
        # A number below nought would otherwise count from the last track backwards.
        if track < 0 or track >= len(self.occupied):
            raise NoTrack(f"no track has the number {track}")

    def enter(self, track):
        self.check_track(track)
        if len(self.queue) == 0:
            raise NoneWaiting("no wagon waits")
        self.occupied[track].append(self.queue.pop(0))

    def leave(self, track):
        self.check_track(track)
        wagons = self.occupied[track]
        if len(wagons) == 0:
            raise TrackEmpty(f"no wagon stands on track {track}")
        if self.kinds[track] == LANE:
            self.departed.append(wagons.pop(0))
        else:
            self.departed.append(wagons.pop())

    def waiting(self):
        return list(self.queue)

    def standing(self, track):
        self.check_track(track)
        return list(self.occupied[track])

    def gone(self):
        return list(self.departed)


def run(kinds, row, deeds):
    yard = Yard(kinds, row)
    for way, track in deeds:
        if way == ENTERING:
            yard.enter(track)
        else:
            yard.leave(track)
    return yard.gone()
