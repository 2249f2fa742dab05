import random
import unittest
from copy import deepcopy
from itertools import permutations

from shuntyard.lanes import fewest, lane_plan
from shuntyard.tracks import run

MOST = 10 ** 12
CHANGES = [list.clear, list.reverse, lambda xs: xs.append(3), lambda xs: xs.insert(0, 4), lambda xs: xs.pop()]


def every_order(count):
    """All orders of the wagons 0, 3, 6 and so on."""
    return [list(row) for row in permutations(range(0, 3 * count, 3))]


def long_rows():
    """Rows of sixty wagons: sorted, turned about, in blocks, drawn, nearly sorted, with small and large numbers."""
    drawn = random.Random(60)
    rising = list(range(60))
    yield from [rising, rising[::-1]]
    for width in (2, 3, 7, 20, 30):
        blocks = [rising[start:start + width] for start in range(0, 60, width)]
        yield [wagon for block in blocks for wagon in block[::-1]]
        yield [wagon for block in blocks[::-1] for wagon in block]
        yield [wagon for start in range(width) for wagon in rising[start::width]]
    for _ in range(40):
        yield drawn.sample(range(60), 60)
        yield drawn.sample(range(MOST + 1), 60)
        yield [MOST - wagon for wagon in drawn.sample(range(60), 60)]
        nearly = list(range(60))
        for _ in range(4):
            one, other = drawn.sample(range(60), 2)
            nearly[one], nearly[other] = nearly[other], nearly[one]
        yield nearly
        yield nearly[::-1]


def is_part(part, row):
    places = [row.index(wagon) for wagon in part]
    return all(one < other for one, other in zip(places, places[1:]))


class LanesCase(unittest.TestCase):
    def check_fewest(self, row):
        handed = list(row)
        told = fewest(handed)
        self.assertEqual(handed, row)
        self.assertIs(type(told), tuple, row)
        self.assertEqual(len(told), 2, row)
        rows, wall = told
        self.assertIs(type(rows), list, row)
        self.assertIs(type(wall), list, row)
        for rising in rows:
            self.assertIs(type(rising), list, row)
            self.assertNotEqual(rising, [], row)
            self.assertTrue(is_part(rising, row), (row, rising))
            self.assertEqual(rising, sorted(rising), row)
        self.assertEqual(sorted(wagon for rising in rows for wagon in rising), sorted(row), row)
        self.assertTrue(is_part(wall, row), (row, wall))
        self.assertEqual(wall, sorted(wall, reverse=True), row)
        self.assertEqual(len(wall), len(rows), row)
        for wagon in wall + [wagon for rising in rows for wagon in rising]:
            self.assertIs(type(wagon), int, row)
        return told

    def check_plan(self, row):
        handed = list(row)
        plan = lane_plan(handed)
        self.assertEqual(handed, row)
        self.assertIs(type(plan), list, row)
        for deed in plan:
            self.assertIs(type(deed), tuple, row)
            self.assertEqual([type(part) for part in deed], [str, int], row)
            self.assertIn(deed[0], ("in", "out"), row)
        if len(row) <= 60:
            self.assertLessEqual(len(plan), 200, row)
        lanes = len(fewest(row)[0])
        self.assertEqual(run(["lane"] * lanes, row, plan), sorted(row), row)
        return plan

    def check(self, row):
        self.check_plan(row)
        return self.check_fewest(row)


class Answers(LanesCase):
    def test_no_wagon(self):
        self.assertEqual(self.check([]), ([], []))
        self.assertEqual(lane_plan([]), [])

    def test_one_wagon(self):
        for wagon in (0, 5, MOST):
            self.assertEqual(self.check([wagon]), ([[wagon]], [wagon]))
            self.assertEqual(lane_plan([wagon]), [("in", 0), ("out", 0)])

    def test_two_wagons(self):
        for less, greater in ((0, 1), (0, MOST), (MOST - 1, MOST)):
            rows, wall = self.check([less, greater])
            self.assertEqual(rows, [[less, greater]])
            self.assertIn(wall, ([less], [greater]))
            rows, wall = self.check([greater, less])
            self.assertCountEqual(rows, [[greater], [less]])
            self.assertEqual(wall, [greater, less])

    def test_every_order_of_up_to_six_wagons(self):
        for count in range(7):
            for row in every_order(count):
                self.check(row)

    def test_sorted_and_turned_about(self):
        for count in (2, 7, 59, 60):
            rising = list(range(count))
            rows, wall = self.check(rising)
            self.assertEqual(rows, [rising])
            self.assertEqual(len(wall), 1)
            rows, wall = self.check(rising[::-1])
            self.assertCountEqual(rows, [[wagon] for wagon in rising])
            self.assertEqual(wall, rising[::-1])

    def test_long_rows(self):
        for row in long_rows():
            self.check(row)

    def test_somewhat_beyond_the_bounds(self):
        drawn = random.Random(7)
        for row in (list(range(75)), list(range(75, 0, -1)), drawn.sample(range(75), 75), [MOST + 2, -3, MOST + 1]):
            self.check(row)

    def test_arguments_by_name(self):
        self.assertEqual(fewest(row=[7]), ([[7]], [7]))
        self.assertEqual(lane_plan(row=[7]), [("in", 0), ("out", 0)])


class NothingKept(LanesCase):
    ROWS = [[], [4], [0, 3, 6], [6, 3, 0], [3, 0, 6, 9, 2, 1], list(range(60))]

    def test_fewest_is_as_good_behind_a_change_of_what_it_gave_back(self):
        for row in self.ROWS:
            for change in CHANGES:
                rows, wall = fewest(row)
                for changed in rows + [rows, wall]:
                    if changed:
                        change(changed)
                self.check_fewest(row)

    def test_the_plan_is_as_good_behind_a_change_of_what_it_gave_back(self):
        for row in self.ROWS:
            for change in CHANGES:
                plan = lane_plan(row)
                if plan:
                    change(plan)
                self.check_plan(row)

    def test_empty_lists_given_back_are_changed(self):
        rows, wall = fewest([])
        rows.append([1])
        wall.append(1)
        lane_plan([]).append(("in", 0))
        self.assertEqual((fewest([]), lane_plan([])), (([], []), []))

    def test_what_was_given_back_stays_when_the_row_is_changed(self):
        for row in self.ROWS:
            handed = list(row)
            told = fewest(handed), lane_plan(handed)
            before = deepcopy(told)
            handed.append(8)
            handed.reverse()
            self.assertEqual(told, before)

    def test_no_list_given_back_is_another_one(self):
        for row in self.ROWS:
            rows, wall = fewest(row)
            again, other_wall = fewest(row)
            lists = rows + again + [rows, again, wall, other_wall, row]
            self.assertEqual(len({id(one) for one in lists}), len(lists))


if __name__ == "__main__":
    unittest.main()
