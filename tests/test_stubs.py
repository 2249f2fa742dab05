import random
import unittest
from copy import deepcopy
from itertools import permutations

from shuntyard.stubs import crossing, one_stub, two_stubs
from shuntyard.tracks import run

MOST = 10 ** 12
CHANGES = [list.clear, list.reverse, lambda xs: xs.append(3), lambda xs: xs.insert(0, 4), lambda xs: xs.pop()]


def every_order(count):
    """All orders of the wagons 0, 3, 6 and so on."""
    return [list(row) for row in permutations(range(0, 3 * count, 3))]


def cross(row, one, other):
    """The words of point 8, for two wagons in whichever order."""
    ahead, behind = sorted((row.index(one), row.index(other)))
    lesser_behind = [wagon for wagon in row[behind + 1:] if wagon < one and wagon < other]
    return row[ahead] < row[behind] and lesser_behind != []


def expected_pairs(row):
    return [(one, other) for place, one in enumerate(row) for other in row[place + 1:] if cross(row, one, other)]


def has_plan(row, stubs):
    """Whether some plan sorts the row, searched for by trying deeds. A wagon that is not the next one of the rising
    order is never let leave; all else is tried."""
    order = sorted(row)
    start = (0, 0, ((),) * stubs)
    seen, open_ends = {start}, [start]
    while open_ends:
        entered, left, standing = open_ends.pop()
        if left == len(row):
            return True
        for stub, wagons in enumerate(standing):
            nexts = []
            if entered < len(row):
                nexts.append((entered + 1, left, wagons + (row[entered],)))
            if wagons and wagons[-1] == order[left]:
                nexts.append((entered, left + 1, wagons[:-1]))
            for now_entered, now_left, now_standing in nexts:
                state = (now_entered, now_left, standing[:stub] + (now_standing,) + standing[stub + 1:])
                if state not in seen:
                    seen.add(state)
                    open_ends.append(state)
    return False


def drawn_row(drawn, count, stubs, entering=1):
    """A row that some plan sorts: deeds are drawn first, and the wagons are numbered in the order of leaving."""
    standing, left, entered = [[] for _ in range(stubs)], [], 0
    while len(left) < count:
        ways = [("in", stub) for stub in range(stubs) for _ in range(entering) if entered < count]
        ways += [("out", stub) for stub in range(stubs) if standing[stub]]
        way, stub = drawn.choice(ways)
        if way == "in":
            standing[stub].append(entered)
            entered += 1
        else:
            left.append(standing[stub].pop())
    return [left.index(wagon) for wagon in range(count)]


def ring_row(links):
    """A row whose crossing wagons make one ring of `links` + 1 wagons and no other. Each of a chain of wagons crosses
    the next; a long-standing one crosses the first and the last of the chain; behind each of the chain but the first
    stands a lesser one, which crosses nobody and keeps the one before from leaving too early."""
    chain = [2 * link + 1 for link in range(links)]
    row = [chain[0], 2 * links - 2]
    for link in range(1, links):
        row += [chain[link], 2 * (link - 1)]
    return row


def above(row, least):
    return [wagon + least for wagon in row]


class StubsCase(unittest.TestCase):
    def check_pair(self, told, row, words):
        self.assertIs(type(told), tuple, row)
        self.assertEqual(len(told), 2, row)
        self.assertIn(told[0], words, row)
        self.assertIs(type(told[1]), list, row)

    def check_plan(self, row, stubs, plan):
        for deed in plan:
            self.assertIs(type(deed), tuple, row)
            self.assertEqual([type(part) for part in deed], [str, int], row)
            self.assertIn(deed[0], ("in", "out"), row)
        if len(row) <= 60:
            self.assertLessEqual(len(plan), 200, row)
        self.assertEqual(run(["stub"] * stubs, row, plan), sorted(row), row)

    def check_wagons(self, row, wagons):
        for wagon in wagons:
            self.assertIs(type(wagon), int, row)
            self.assertIn(wagon, row)
        self.assertEqual(len(set(wagons)), len(wagons), (row, wagons))

    def check_crossing(self, row):
        handed = list(row)
        told = crossing(handed)
        self.assertEqual(handed, row)
        self.assertIs(type(told), list, row)
        for pair in told:
            self.assertIs(type(pair), tuple, row)
        self.assertEqual(told, expected_pairs(row), row)
        return told

    def check_one(self, row):
        handed = list(row)
        told = one_stub(handed)
        self.assertEqual(handed, row)
        self.check_pair(told, row, ("plan", "stuck"))
        if told[0] == "plan":
            self.check_plan(row, 1, told[1])
        else:
            self.assertEqual(len(told[1]), 3, (row, told))
            self.check_wagons(row, told[1])
            ahead, other, last = told[1]
            self.assertLess(row.index(ahead), row.index(other), (row, told))
            self.assertLess(row.index(other), row.index(last), (row, told))
            self.assertTrue(cross(row, ahead, other), (row, told))
            self.assertLess(last, ahead, (row, told))
        return told[0]

    def check_two(self, row):
        handed = list(row)
        told = two_stubs(handed)
        self.assertEqual(handed, row)
        self.check_pair(told, row, ("plan", "ring"))
        if told[0] == "plan":
            self.check_plan(row, 2, told[1])
        else:
            ring = told[1]
            self.check_wagons(row, ring)
            self.assertGreaterEqual(len(ring), 3, (row, ring))
            self.assertEqual(len(ring) % 2, 1, (row, ring))
            for one, following in zip(ring, ring[1:] + ring[:1]):
                self.assertTrue(cross(row, one, following), (row, ring))
        return told[0]


class Crossing(StubsCase):
    def test_no_wagon_one_and_two(self):
        for row in ([], [0], [MOST], [1, 2], [2, 1]):
            self.assertEqual(self.check_crossing(row), [])

    def test_three_wagons(self):
        for row in ([1, 2, 3], [1, 3, 2], [2, 1, 3], [3, 1, 2], [3, 2, 1]):
            self.assertEqual(self.check_crossing(row), [])
        self.assertEqual(self.check_crossing([2, 3, 1]), [(2, 3)])
        self.assertEqual(self.check_crossing([MOST - 1, MOST, 0]), [(MOST - 1, MOST)])

    def test_every_order_of_up_to_six_wagons(self):
        for count in range(7):
            for row in every_order(count):
                self.check_crossing(row)

    def test_the_order_of_the_pairs_is_that_of_the_places(self):
        self.assertEqual(self.check_crossing([5, 9, 2, 7, 3, 0]), [(5, 9), (5, 7), (2, 7), (2, 3)])
        self.assertEqual(self.check_crossing([5, 9, 8, 2, 7, 0]), [(5, 9), (5, 8), (5, 7), (2, 7)])

    def test_longer_rows(self):
        drawn = random.Random(8)
        rising = list(range(60))
        self.assertEqual(self.check_crossing(rising), [])
        self.assertEqual(self.check_crossing(rising[::-1]), [])
        self.assertEqual(len(self.check_crossing(above(rising[:59], 1) + [0])), 59 * 58 // 2)
        for count in (9, 20, 60, 70):
            for _ in range(6):
                self.check_crossing(drawn.sample(range(count), count))
                self.check_crossing(drawn.sample(range(MOST + 1), count))

    def test_arguments_by_name(self):
        self.assertEqual(crossing(row=[2, 3, 1]), [(2, 3)])


class OneStub(StubsCase):
    def test_no_wagon_and_one(self):
        self.assertEqual(one_stub([]), ("plan", []))
        for wagon in (0, 5, MOST):
            self.assertEqual(one_stub([wagon]), ("plan", [("in", 0), ("out", 0)]))

    def test_three_wagons_that_are_stuck(self):
        self.assertEqual(one_stub([2, 3, 1]), ("stuck", [2, 3, 1]))
        self.assertEqual(one_stub([MOST - 1, MOST, 0]), ("stuck", [MOST - 1, MOST, 0]))

    def test_every_order_of_up_to_seven_wagons(self):
        for count in range(8):
            for row in every_order(count):
                self.assertEqual(self.check_one(row) == "plan", expected_pairs(row) == [], row)

    def test_a_plan_is_told_just_where_trying_deeds_finds_one(self):
        for count in range(7):
            for row in every_order(count):
                self.assertEqual(self.check_one(row) == "plan", has_plan(row, 1), row)

    def test_longer_rows_that_one_stub_sorts(self):
        drawn = random.Random(1)
        for row in (list(range(60)), list(range(60, 0, -1)), list(range(70, 0, -1)), list(range(70))):
            self.assertEqual(self.check_one(row), "plan")
        for count in (10, 30, 59, 60, 70):
            for entering in (1, 2, 5):
                for _ in range(8):
                    row = drawn_row(drawn, count, 1, entering)
                    self.assertEqual(self.check_one(row), "plan", row)
                    self.assertEqual(self.check_one([MOST - count + wagon for wagon in row]), "plan", row)

    def test_longer_rows_that_it_does_not_sort(self):
        drawn = random.Random(2)
        for count in (12, 30, 60, 70):
            for _ in range(12):
                row = drawn.sample(range(MOST + 1), count)
                self.assertEqual(self.check_one(row), "stuck" if expected_pairs(row) else "plan", row)
            self.assertEqual(self.check_one(list(range(1, count)) + [0]), "stuck")

    def test_a_crossing_behind_many_wagons_that_make_no_trouble(self):
        drawn = random.Random(3)
        tangle = above([2, 3, 1], 100)
        for quiet in (list(range(57)), list(range(200, 257))[::-1], drawn_row(drawn, 57, 1, 3)):
            row = quiet + tangle
            self.assertEqual(expected_pairs(row), [(102, 103)])
            self.assertEqual(one_stub(row), ("stuck", [102, 103, 101]))
            self.check_one(row)

    def test_a_crossing_ahead_of_and_around_many_wagons_that_make_no_trouble(self):
        self.assertEqual(self.check_one([2, 3, 1] + list(range(10, 67))), "stuck")
        self.assertEqual(self.check_one([20] + list(range(90, 33, -1)) + [10]), "stuck")
        self.assertEqual(self.check_one([20, 91] + list(range(90, 33, -1)) + [10]), "stuck")

    def test_arguments_by_name(self):
        self.assertEqual(one_stub(row=[2, 3, 1]), ("stuck", [2, 3, 1]))


class TwoStubs(StubsCase):
    def test_no_wagon_and_one(self):
        self.assertEqual(two_stubs([]), ("plan", []))
        for wagon in (0, 5, MOST):
            self.assertEqual(self.check_two([wagon]), "plan")

    def test_every_order_of_up_to_seven_wagons(self):
        for count in range(8):
            for row in every_order(count):
                self.assertEqual(self.check_two(row) == "plan", has_plan(row, 2), row)

    def test_three_that_cross_each_other(self):
        self.assertEqual(self.check_two([2, 3, 4, 1]), "ring")
        self.assertCountEqual(two_stubs([2, 3, 4, 1])[1], [2, 3, 4])
        self.assertCountEqual(two_stubs([MOST - 2, MOST - 1, MOST, 0])[1], [MOST - 2, MOST - 1, MOST])

    def test_rings_of_every_length(self):
        for links in range(2, 36):
            row = ring_row(links)
            self.assertEqual(len(expected_pairs(row)), links + 1 if links > 2 else 3)
            expected = "ring" if links % 2 == 0 else "plan"
            self.assertEqual(self.check_two(row), expected, row)
            if expected == "ring":
                self.assertEqual(len(two_stubs(row)[1]), links + 1)

    def test_a_ring_behind_wagons_that_cross_it_or_do_not(self):
        for links in (2, 4, 6, 10):
            ring = ring_row(links)
            for ahead in ([], list(range(8)), list(range(8))[::-1], [1, 2, 0], above(ring_row(5), 0)):
                self.assertEqual(self.check_two(ahead + above(ring, 100)), "ring")
                self.assertEqual(self.check_two(above(ahead, 100) + ring), "ring")
                self.assertEqual(self.check_two(above(ring, 100) + ahead), "ring")

    def test_rows_that_one_stub_sorts(self):
        drawn = random.Random(4)
        for row in (list(range(60)), list(range(60, 0, -1)), list(range(70))):
            self.assertEqual(self.check_two(row), "plan")
        for count in (5, 20, 60):
            for _ in range(10):
                self.assertEqual(self.check_two(drawn_row(drawn, count, 1, 2)), "plan")

    def test_longer_rows_that_two_stubs_sort(self):
        drawn = random.Random(5)
        for count in (8, 15, 30, 59, 60, 70):
            for entering in (1, 2, 4, 8):
                for _ in range(10):
                    row = drawn_row(drawn, count, 2, entering)
                    self.assertEqual(self.check_two(row), "plan", row)
                    self.assertEqual(self.check_two([MOST - count + wagon for wagon in row]), "plan", row)

    def test_longer_rows_that_have_no_plan(self):
        drawn = random.Random(6)
        for count in (30, 60, 70):
            self.assertEqual(self.check_two(list(range(1, count)) + [0]), "ring")
            for _ in range(20):
                row = drawn.sample(range(1, MOST + 1), count - 4)
                # Three greater ones, in rising order, with the least of all at the end, cross each other.
                for place, wagon in zip(sorted(drawn.sample(range(count - 4), 3)), (1, 2, 3)):
                    row.insert(place, MOST + wagon)
                self.assertEqual(self.check_two(row + [0]), "ring", row)

    def test_drawn_rows_of_eight_to_twelve_wagons(self):
        drawn = random.Random(9)
        for count in (8, 9, 10, 12):
            for _ in range(60):
                row = drawn_row(drawn, count, 2, 2)
                one, other = drawn.sample(range(count), 2)
                row[one], row[other] = row[other], row[one]
                self.assertEqual(self.check_two(row) == "plan", has_plan(row, 2), row)

    def test_longer_rows_with_two_wagons_exchanged(self):
        drawn = random.Random(10)
        told = set()
        for count in (14, 25, 60):
            for _ in range(60):
                row = drawn_row(drawn, count, 2, 2)
                one = drawn.randrange(count - 2)
                row[one], row[one + 2] = row[one + 2], row[one]
                told.add(self.check_two(row))
        self.assertEqual(told, {"plan", "ring"})

    def test_arguments_by_name(self):
        self.assertEqual(two_stubs(row=[2, 3, 4, 1])[0], "ring")


class NothingKept(StubsCase):
    ROWS = [[], [4], [2, 3, 1], [3, 1, 2], [2, 3, 4, 1], [5, 9, 2, 7, 3, 0], list(range(60)), ring_row(8)]

    def test_answers_are_as_good_behind_a_change_of_what_was_given_back(self):
        for row in self.ROWS:
            for change in CHANGES:
                for told in (crossing(row), one_stub(row)[1], two_stubs(row)[1]):
                    if told:
                        change(told)
                self.check_crossing(row)
                self.check_one(row)
                self.check_two(row)

    def test_empty_lists_given_back_are_changed(self):
        for told in (crossing([]), one_stub([])[1], two_stubs([])[1]):
            told.append(5)
        self.assertEqual((crossing([]), one_stub([]), two_stubs([])), ([], ("plan", []), ("plan", [])))

    def test_what_was_given_back_stays_when_the_row_is_changed(self):
        for row in self.ROWS:
            handed = list(row)
            told = crossing(handed), one_stub(handed), two_stubs(handed)
            before = deepcopy(told)
            handed.append(8)
            handed.reverse()
            self.assertEqual(told, before)


if __name__ == "__main__":
    unittest.main()
