import unittest
from itertools import product

from shuntyard.errors import NoneWaiting, NoTrack, TrackEmpty, YardError
from shuntyard.tracks import Yard, run

MOST = 10 ** 12


def state(yard, tracks):
    return yard.waiting(), [yard.standing(track) for track in range(tracks)], yard.gone()


def do(yard, deed):
    return yard.enter(deed[1]) if deed[0] == "in" else yard.leave(deed[1])


def strange_numbers(tracks):
    """Numbers that no track has; the ones just below nought are those that Python would count backwards."""
    below = [-1, -2, -3, -max(tracks, 1), -tracks - 1, -10 ** 6, -10 ** 6 - 7]
    return below + [tracks, tracks + 1, tracks + 60, 10 ** 6, 10 ** 6 + 7]


class YardCase(unittest.TestCase):
    def assert_state(self, yard, waiting, standing, gone):
        self.assertEqual(state(yard, len(standing)), (waiting, standing, gone))

    def follow(self, yard, steps):
        for deed, waiting, standing, gone in steps:
            with self.subTest(deed=deed, gone=gone):
                self.assertIsNone(do(yard, deed))
                self.assert_state(yard, waiting, standing, gone)

    def assert_refused(self, yard, tracks, deed, error):
        before = state(yard, tracks)
        with self.subTest(deed=deed, before=before):
            with self.assertRaises(YardError) as taken:
                do(yard, deed)
            self.assertIs(type(taken.exception), error)
            self.assertEqual(state(yard, tracks), before)


class Deeds(YardCase):
    def test_a_new_yard(self):
        self.assert_state(Yard(["lane", "stub"], [3, 1, 2]), [3, 1, 2], [[], []], [])

    def test_a_lane_lets_the_first_one_leave_first(self):
        self.follow(Yard(["lane"], [5, 0, MOST]), [
            (("in", 0), [0, MOST], [[5]], []),
            (("in", 0), [MOST], [[5, 0]], []),
            (("out", 0), [MOST], [[0]], [5]),
            (("in", 0), [], [[0, MOST]], [5]),
            (("out", 0), [], [[MOST]], [5, 0]),
            (("out", 0), [], [[]], [5, 0, MOST]),
        ])

    def test_a_stub_lets_the_last_one_leave_first(self):
        self.follow(Yard(["stub"], [5, 0, MOST]), [
            (("in", 0), [0, MOST], [[5]], []),
            (("in", 0), [MOST], [[5, 0]], []),
            (("out", 0), [MOST], [[5]], [0]),
            (("in", 0), [], [[5, MOST]], [0]),
            (("out", 0), [], [[5]], [0, MOST]),
            (("out", 0), [], [[]], [0, MOST, 5]),
        ])

    def test_several_tracks_of_both_kinds(self):
        self.follow(Yard(["stub", "lane", "lane", "stub"], [1, 2, 3, 4, 5, 6, 7]), [
            (("in", 1), [2, 3, 4, 5, 6, 7], [[], [1], [], []], []),
            (("in", 0), [3, 4, 5, 6, 7], [[2], [1], [], []], []),
            (("in", 0), [4, 5, 6, 7], [[2, 3], [1], [], []], []),
            (("in", 1), [5, 6, 7], [[2, 3], [1, 4], [], []], []),
            (("in", 3), [6, 7], [[2, 3], [1, 4], [], [5]], []),
            (("in", 3), [7], [[2, 3], [1, 4], [], [5, 6]], []),
            (("out", 1), [7], [[2, 3], [4], [], [5, 6]], [1]),
            (("out", 0), [7], [[2], [4], [], [5, 6]], [1, 3]),
            (("in", 2), [], [[2], [4], [7], [5, 6]], [1, 3]),
            (("out", 3), [], [[2], [4], [7], [5]], [1, 3, 6]),
            (("out", 2), [], [[2], [4], [], [5]], [1, 3, 6, 7]),
        ])

    def test_standing_tells_the_order_of_entering(self):
        row = [9, 2, 7, 4, 0]
        for kind in ("lane", "stub"):
            yard = Yard([kind], row)
            for count in range(1, 6):
                yard.enter(0)
                self.assertEqual(yard.standing(0), row[:count])

    def test_sixty_tracks_and_wagons_and_somewhat_more(self):
        for count in (60, 70):
            kinds = ["lane", "stub"] * (count // 2)
            row = list(range(MOST, MOST - count, -1))
            plan = [("in", track) for track in range(count)] + [("out", track) for track in range(count)][::-1]
            self.assertEqual(run(kinds, row, plan), row[::-1])
            for kind, left in (("lane", row), ("stub", row[::-1])):
                self.assertEqual(run([kind], row, [("in", 0)] * count + [("out", 0)] * count), left)

    def test_what_is_told_is_a_list(self):
        yard = Yard(["lane", "stub"], [1, 2, 3])
        yard.enter(0)
        yard.leave(0)
        yard.enter(1)
        for told in (yard.waiting(), yard.standing(0), yard.standing(1), yard.gone()):
            self.assertIs(type(told), list)

    def test_arguments_by_name(self):
        yard = Yard(kinds=["stub"], row=[8])
        yard.enter(track=0)
        self.assertEqual(yard.standing(track=0), [8])
        yard.leave(track=0)
        self.assertEqual(yard.gone(), [8])


class Refusals(YardCase):
    def yards(self):
        """Yards at rest, with nothing waiting, and with something on every track or on none."""
        for kinds in ([], ["lane"], ["stub"], ["stub", "lane", "stub"]):
            for row in ([], [6, 2, 9, 1]):
                yield Yard(kinds, row), len(kinds)
                yard = Yard(kinds, row)
                for track in range(min(len(kinds), len(row))):
                    yard.enter(track)
                yield yard, len(kinds)
                if kinds:
                    for wagon in yard.waiting():
                        yard.enter(0)
                    yield yard, len(kinds)

    def test_no_track_with_either_deed(self):
        for yard, tracks in self.yards():
            for number in strange_numbers(tracks):
                self.assert_refused(yard, tracks, ("in", number), NoTrack)
                self.assert_refused(yard, tracks, ("out", number), NoTrack)

    def test_no_track_with_standing(self):
        for yard, tracks in self.yards():
            before = state(yard, tracks)
            for number in strange_numbers(tracks):
                with self.subTest(number=number, before=before):
                    with self.assertRaises(NoTrack):
                        yard.standing(number)
                    self.assertEqual(state(yard, tracks), before)

    def test_nought_and_the_last_number_are_tracks(self):
        yard = Yard(["lane", "stub", "stub"], [1, 2])
        yard.enter(0)
        yard.enter(2)
        self.assert_state(yard, [], [[1], [], [2]], [])

    def test_a_yard_without_tracks(self):
        yard = Yard([], [1, 2])
        self.assert_refused(yard, 0, ("in", 0), NoTrack)
        self.assert_refused(yard, 0, ("out", 0), NoTrack)
        self.assertRaises(NoTrack, yard.standing, 0)
        self.assert_state(yard, [1, 2], [], [])

    def test_none_waiting(self):
        for kind in ("lane", "stub"):
            self.assert_refused(Yard([kind], []), 1, ("in", 0), NoneWaiting)
            yard = Yard([kind, kind], [4])
            yard.enter(0)
            self.assert_refused(yard, 2, ("in", 0), NoneWaiting)
            self.assert_refused(yard, 2, ("in", 1), NoneWaiting)
            yard.leave(0)
            self.assert_refused(yard, 2, ("in", 0), NoneWaiting)
            self.assert_state(yard, [], [[], []], [4])

    def test_track_empty(self):
        for kind in ("lane", "stub"):
            self.assert_refused(Yard([kind], []), 1, ("out", 0), TrackEmpty)
            yard = Yard([kind, kind], [4, 3])
            self.assert_refused(yard, 2, ("out", 0), TrackEmpty)
            yard.enter(0)
            self.assert_refused(yard, 2, ("out", 1), TrackEmpty)
            yard.leave(0)
            self.assert_refused(yard, 2, ("out", 0), TrackEmpty)
            self.assert_state(yard, [3], [[], []], [4])

    def test_the_yard_goes_on_behind_a_refusal(self):
        yard = Yard(["stub"], [4, 3])
        self.assert_refused(yard, 1, ("out", 0), TrackEmpty)
        self.assert_refused(yard, 1, ("in", 1), NoTrack)
        yard.enter(0)
        yard.enter(0)
        self.assert_refused(yard, 1, ("in", 0), NoneWaiting)
        yard.leave(0)
        yard.leave(0)
        self.assert_state(yard, [], [[]], [3, 4])


class NothingKept(YardCase):
    def started(self, kinds, row):
        yard = Yard(kinds, row)
        for deed in [("in", 0), ("in", 1), ("in", 1), ("in", 0), ("out", 0)]:
            do(yard, deed)
        return yard

    def test_the_lists_handed_in_stay_as_they_were(self):
        kinds, row = ["lane", "stub"], [1, 2, 3, 4, 5, 6]
        yard = self.started(kinds, row)
        yard.leave(1)
        self.assertEqual((kinds, row), (["lane", "stub"], [1, 2, 3, 4, 5, 6]))

    def test_the_lists_handed_in_are_changed_afterwards(self):
        for change in (list.clear, list.reverse, lambda xs: xs.append(xs[0]), lambda xs: xs.insert(0, xs[-1])):
            kinds, row = ["lane", "stub"], [1, 2, 3, 4, 5, 6]
            yard = Yard(kinds, row)
            change(kinds)
            change(row)
            self.follow(yard, [
                (("in", 0), [2, 3, 4, 5, 6], [[1], []], []),
                (("in", 0), [3, 4, 5, 6], [[1, 2], []], []),
                (("in", 1), [4, 5, 6], [[1, 2], [3]], []),
                (("in", 1), [5, 6], [[1, 2], [3, 4]], []),
                (("out", 0), [5, 6], [[2], [3, 4]], [1]),
                (("out", 1), [5, 6], [[2], [3]], [1, 4]),
            ])
            self.assert_refused(yard, 2, ("in", 2), NoTrack)

    def test_the_lists_given_back_are_changed(self):
        yard = self.started(["lane", "stub"], [1, 2, 3, 4, 5, 6])
        for change in (list.clear, lambda xs: xs.append(99), lambda xs: xs.insert(0, 98)):
            for told in (yard.waiting(), yard.standing(0), yard.standing(1), yard.gone()):
                change(told)
            self.assert_state(yard, [5, 6], [[4], [2, 3]], [1])
        yard.leave(1)
        self.assert_state(yard, [5, 6], [[4], [2]], [1, 3])

    def test_empty_lists_given_back_are_changed(self):
        yard = Yard(["lane", "stub"], [])
        for told in (yard.waiting(), yard.standing(0), yard.standing(1), yard.gone()):
            told.append(7)
        self.assert_state(yard, [], [[], []], [])

    def test_lists_given_back_earlier_stay_as_they_were(self):
        yard = self.started(["lane", "stub"], [1, 2, 3, 4, 5, 6])
        told = state(yard, 2)
        for deed in [("in", 0), ("out", 1), ("out", 0)]:
            do(yard, deed)
        self.assertEqual(told, ([5, 6], [[4], [2, 3]], [1]))

    def test_two_yards_from_the_same_lists(self):
        kinds, row = ["lane", "stub"], [1, 2, 3]
        one, other = Yard(kinds, row), Yard(kinds, row)
        one.enter(0)
        one.enter(1)
        one.leave(0)
        self.assert_state(other, [1, 2, 3], [[], []], [])
        other.enter(1)
        self.assert_state(one, [3], [[], [2]], [1])
        self.assert_state(other, [2, 3], [[], [1]], [])

    def test_the_row_that_run_gives_back_is_changed(self):
        kinds, row, plan = ["stub"], [2, 1], [("in", 0), ("in", 0), ("out", 0), ("out", 0)]
        run(kinds, row, plan).append(9)
        self.assertEqual(run(kinds, row, plan), [1, 2])
        run(kinds, row, []).append(9)
        self.assertEqual(run(kinds, row, []), [])


class Plans(YardCase):
    def check(self, kinds, row, plan, gone):
        handed = list(kinds), list(row), list(plan)
        told = run(*handed)
        self.assertIs(type(told), list)
        self.assertEqual(told, gone)
        self.assertEqual(handed, (kinds, row, plan))

    def check_refused(self, kinds, row, plan, error):
        handed = list(kinds), list(row), list(plan)
        with self.subTest(plan=plan):
            with self.assertRaises(YardError) as taken:
                run(*handed)
            self.assertIs(type(taken.exception), error)
            self.assertEqual(handed, (kinds, row, plan))

    def test_plans_that_sort(self):
        self.check(["lane", "lane"], [2, 1, 3],
                   [("in", 0), ("in", 1), ("in", 0), ("out", 1), ("out", 0), ("out", 0)], [1, 2, 3])
        self.check(["stub"], [3, 1, 2],
                   [("in", 0), ("in", 0), ("out", 0), ("in", 0), ("out", 0), ("out", 0)], [1, 2, 3])
        self.check(["lane", "stub"], [3, 1, 4, 2],
                   [("in", 1), ("in", 0), ("out", 0), ("in", 0), ("in", 1), ("out", 1), ("out", 1), ("out", 0)],
                   [1, 2, 3, 4])

    def test_empty_plans_rows_and_yards(self):
        self.check([], [], [], [])
        self.check([], [1, 2], [], [])
        self.check(["lane", "stub"], [1, 2], [], [])
        self.check(["stub"], [], [], [])

    def test_wagons_left_waiting_or_standing(self):
        self.check(["lane"], [3, 1, 2], [("in", 0), ("out", 0)], [3])
        self.check(["lane"], [3, 1, 2], [("in", 0)], [])
        self.check(["stub"], [3, 1, 2], [("in", 0), ("in", 0), ("out", 0)], [1])
        self.check(["stub", "lane"], [3, 1, 2], [("in", 0), ("in", 0), ("in", 1), ("out", 1)], [2])

    def test_no_track(self):
        for kinds in ([], ["lane"], ["stub", "lane"]):
            for number in strange_numbers(len(kinds)):
                for way in ("in", "out"):
                    for row in ([], [1, 2]):
                        self.check_refused(kinds, row, [(way, number)], NoTrack)
        self.check_refused(["lane"], [1], [("in", 0), ("out", 0), ("out", -1)], NoTrack)
        self.check_refused(["lane"], [1], [("in", 0), ("out", 0), ("in", 1)], NoTrack)

    def test_none_waiting(self):
        self.check_refused(["stub"], [], [("in", 0)], NoneWaiting)
        self.check_refused(["lane"], [1], [("in", 0), ("in", 0)], NoneWaiting)
        self.check_refused(["lane"], [1], [("in", 0), ("out", 0), ("in", 0)], NoneWaiting)

    def test_track_empty(self):
        self.check_refused(["stub"], [1], [("out", 0)], TrackEmpty)
        self.check_refused(["lane", "stub"], [1], [("in", 0), ("out", 1)], TrackEmpty)
        self.check_refused(["lane"], [1, 2], [("in", 0), ("out", 0), ("out", 0)], TrackEmpty)

    def test_the_first_refused_deed_counts(self):
        bad = {NoTrack: ("in", 1), NoneWaiting: ("in", 0), TrackEmpty: ("out", 0)}
        for error, deed in bad.items():
            for other in bad.values():
                self.check_refused(["lane"], [], [deed, other], error)

    def test_two_hundred_deeds_and_somewhat_more(self):
        for wagons in (100, 110):
            row = list(range(wagons))
            self.check(["stub"], row, [("in", 0), ("out", 0)] * wagons, row)

    def test_arguments_by_name(self):
        self.assertEqual(run(kinds=["lane"], row=[5], deeds=[("in", 0), ("out", 0)]), [5])


def expected(kinds, row, deeds):
    """The row that has left, or the refusal's class, from the deeds' counts alone: on a lane the wagon that
    entered as the n-th leaves as the n-th; on a stub an `out` belongs to the nearest `in` ahead of it that
    has no `out` yet."""
    gone, entered = [], 0
    used = []
    for place, (way, track) in enumerate(deeds):
        if track not in range(len(kinds)):
            return NoTrack
        if way == "in":
            if entered == len(row):
                return NoneWaiting
            entered += 1
            continue
        ins = [at for at in range(place) if deeds[at] == ("in", track) and at not in used]
        if not ins:
            return TrackEmpty
        used.append(min(ins) if kinds[track] == "lane" else max(ins))
        gone.append(row[sum(1 for deed in deeds[:used[-1]] if deed[0] == "in")])
    return gone


class EveryShortPlan(unittest.TestCase):
    def test_all_plans(self):
        deeds = [(way, track) for way in ("in", "out") for track in (-1, 0, 1, 2)]
        for kinds in ([], ["stub"], ["lane", "stub"], ["stub", "lane"]):
            for length in range(5):
                for plan in product(deeds, repeat=length):
                    self.compare(kinds, [7, 3, 5], list(plan))

    def test_longer_plans_on_the_tracks_there_are(self):
        for kind in ("lane", "stub"):
            for plan in product([("in", 0), ("out", 0)], repeat=10):
                self.compare([kind], [7, 3, 5, 1, 8], list(plan))
        for plan in product([("in", 0), ("out", 0), ("in", 1), ("out", 1)], repeat=6):
            self.compare(["lane", "stub"], [7, 3, 5, 1], list(plan))

    def compare(self, kinds, row, plan):
        try:
            told = run(kinds, row, plan)
        except YardError as error:
            told = type(error)
        self.assertEqual(told, expected(kinds, row, plan), (kinds, plan))


if __name__ == "__main__":
    unittest.main()
