import random
import unittest
from copy import deepcopy
from itertools import combinations, permutations

from shuntyard.lanes import fewest
from shuntyard.most import most

MOST = 10 ** 12
CHANGES = [list.clear, list.reverse, lambda xs: xs.append(3), lambda xs: xs.insert(0, 4), lambda xs: xs.pop()]


def every_order(count):
    """All orders of the wagons 0, 3, 6 and so on."""
    return [list(row) for row in permutations(range(0, 3 * count, 3))]


def longer_rows():
    """Rows of six to thirty wagons: sorted, turned about, in blocks, drawn, nearly sorted, with large numbers."""
    drawn = random.Random(30)
    for count in (6, 12, 29, 30):
        rising = list(range(count))
        yield from [rising, rising[::-1]]
        for width in (2, 3, 5, 6, 15):
            blocks = [rising[start:start + width] for start in range(0, count, width)]
            yield [wagon for block in blocks for wagon in block[::-1]]
            yield [wagon for block in blocks[::-1] for wagon in block]
            yield [wagon for start in range(width) for wagon in rising[start::width]]
        for _ in range(8):
            yield drawn.sample(range(MOST + 1), count)
            yield [MOST - wagon for wagon in drawn.sample(range(count), count)]
            nearly = list(range(count))
            for _ in range(3):
                one, other = drawn.sample(range(count), 2)
                nearly[one], nearly[other] = nearly[other], nearly[one]
            yield nearly
            yield nearly[::-1]


def is_part(part, row):
    places = [row.index(wagon) for wagon in part]
    return all(one < other for one, other in zip(places, places[1:]))


def longest_falling(wagons):
    """How many rising rows the wagons need, in the words of point 6: as many as their longest falling part has."""
    lengths = []
    for place, wagon in enumerate(wagons):
        lengths.append(1 + max([lengths[other] for other in range(place) if wagons[other] > wagon], default=0))
    return max(lengths, default=0)


def tried_out(row, lanes):
    """The most wagons that fit on the lanes, found by leaving out every choice of wagons."""
    for count in range(len(row), 0, -1):
        for part in combinations(row, count):
            if longest_falling(part) <= lanes:
                return count
    return 0


class MostCase(unittest.TestCase):
    def check_parts(self, parts, row, falling):
        self.assertIs(type(parts), list, row)
        for part in parts:
            self.assertIs(type(part), list, row)
            self.assertNotEqual(part, [], row)
            self.assertTrue(is_part(part, row), (row, part))
            self.assertEqual(part, sorted(part, reverse=falling), row)
        wagons = [wagon for part in parts for wagon in part]
        self.assertEqual(len(set(wagons)), len(wagons), (row, parts))
        for wagon in wagons:
            self.assertIs(type(wagon), int, row)
        return len(wagons)

    def check(self, row, lanes):
        """How many wagons the lanes hold, and the answer."""
        handed = list(row)
        told = most(handed, lanes)
        self.assertEqual(handed, row)
        self.assertIs(type(told), tuple, (row, lanes))
        self.assertEqual(len(told), 2, (row, lanes))
        rows, walls = told
        held = self.check_parts(rows, row, falling=False)
        in_walls = self.check_parts(walls, row, falling=True)
        self.assertLessEqual(len(rows), lanes, (row, told))
        self.assertEqual(lanes * len(walls) + len(row) - in_walls, held, (row, lanes, told))
        return held, told


class Answers(MostCase):
    def test_no_wagon(self):
        for lanes in (0, 1, 2, 60):
            self.assertEqual(self.check([], lanes), (0, ([], [])))

    def test_one_wagon(self):
        for wagon in (0, 5, MOST):
            self.assertEqual(self.check([wagon], 0), (0, ([], [[wagon]])))
            for lanes in (1, 2, 60):
                self.assertEqual(self.check([wagon], lanes)[1][0], [[wagon]])

    def test_every_order_of_up_to_five_wagons(self):
        for count in range(6):
            for row in every_order(count):
                for lanes in range(7):
                    held, told = self.check(row, lanes)
                    self.assertEqual(held, tried_out(row, lanes), (row, lanes))

    def test_some_orders_of_six_to_nine_wagons(self):
        drawn = random.Random(2)
        for count in (6, 7, 8, 9):
            for _ in range(10):
                row = drawn.sample(range(count), count)
                for lanes in range(5):
                    self.assertEqual(self.check(row, lanes)[0], tried_out(row, lanes), (row, lanes))

    def test_the_longest_rising_row_is_no_part_of_the_best_two(self):
        # Whoever keeps 0 1 4 5 for the first of two lanes holds five wagons instead of six.
        held, told = self.check([3, 0, 1, 4, 5, 2], 1)
        self.assertEqual((held, told[0]), (4, [[0, 1, 4, 5]]))
        held, told = self.check([3, 0, 1, 4, 5, 2], 2)
        self.assertEqual(held, 6)
        self.assertCountEqual(told[0], [[3, 4, 5], [0, 1, 2]])

    def test_longer_rows(self):
        for row in longer_rows():
            for lanes in (0, 1, 2, 3, 4, 7, 15, 29, 30, 31, 60):
                self.check(row, lanes)

    def test_no_lane(self):
        for row in longer_rows():
            held, (rows, walls) = self.check(row, 0)
            self.assertEqual((held, rows), (0, []))
            self.assertCountEqual([wagon for wall in walls for wagon in wall], row)

    def test_as_many_lanes_as_there_are_rising_rows_and_one_less_and_more(self):
        rows = [row for count in range(1, 6) for row in every_order(count)] + list(longer_rows())
        for row in rows:
            needed = len(fewest(row)[0])
            self.assertEqual(self.check(row, needed)[0], len(row), row)
            self.assertEqual(self.check(row, needed + 1)[0], len(row), row)
            self.assertLess(self.check(row, needed - 1)[0], len(row), row)

    def test_one_lane_holds_the_longest_rising_row(self):
        for row in longer_rows():
            self.assertEqual(self.check(row, 1)[0], longest_falling(row[::-1]), row)

    def test_sixty_lanes_with_few_wagons(self):
        for count in range(5):
            for row in every_order(count):
                self.assertEqual(self.check(row, 60)[0], count)

    def test_somewhat_beyond_the_bounds(self):
        drawn = random.Random(7)
        for row in (list(range(40)), list(range(40, 0, -1)), drawn.sample(range(45), 45), [MOST + 2, -3, MOST + 1]):
            for lanes in (0, 1, 2, 9, 39, 40, 65):
                self.check(row, lanes)

    def test_arguments_by_name(self):
        self.assertEqual(most(row=[7], lanes=0), ([], [[7]]))


class NothingKept(MostCase):
    ROWS = [[], [4], [0, 3, 6], [6, 3, 0], [3, 0, 1, 4, 5, 2], list(range(30)), list(range(30))[::-1]]

    def test_answers_are_as_good_behind_a_change_of_what_was_given_back(self):
        for row in self.ROWS:
            for lanes in (0, 1, 2, 60):
                for change in CHANGES:
                    rows, walls = most(row, lanes)
                    for changed in rows + walls + [rows, walls]:
                        if changed:
                            change(changed)
                    self.check(row, lanes)

    def test_empty_lists_given_back_are_changed(self):
        for lanes in (0, 1):
            rows, walls = most([], lanes)
            rows.append([1])
            walls.append([1])
            self.assertEqual(most([], lanes), ([], []))

    def test_what_was_given_back_stays_when_the_row_is_changed(self):
        for row in self.ROWS:
            for lanes in (0, 1, 2):
                handed = list(row)
                told = most(handed, lanes)
                before = deepcopy(told)
                handed.append(8)
                handed.reverse()
                self.assertEqual(told, before)

    def test_no_list_given_back_is_another_one(self):
        for row in self.ROWS:
            for lanes in (0, 1, 2):
                rows, walls = most(row, lanes)
                again, other_walls = most(row, lanes)
                lists = rows + walls + again + other_walls + [rows, walls, again, other_walls, row]
                self.assertEqual(len({id(one) for one in lists}), len(lists))


if __name__ == "__main__":
    unittest.main()
