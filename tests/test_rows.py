import unittest
from itertools import combinations, permutations, product

from shuntyard.rows import is_falling, is_rising, stands_in

MOST = 10 ** 12
SIXTY = [wagon * wagon * 7 for wagon in range(60)]


def swapped(row, place):
    return row[:place] + [row[place + 1], row[place]] + row[place + 2:]


class RisingAndFalling(unittest.TestCase):
    def check(self, row, rising, falling):
        with self.subTest(row=row):
            handed = list(row)
            self.assertIs(is_rising(handed), rising)
            self.assertIs(is_falling(handed), falling)
            self.assertEqual(handed, row)

    def test_no_wagon_and_one_are_both(self):
        for row in ([], [0], [5], [MOST]):
            self.check(row, True, True)

    def test_two_wagons(self):
        self.check([1, 2], True, False)
        self.check([2, 1], False, True)
        self.check([0, MOST], True, False)
        self.check([MOST, 0], False, True)
        self.check([MOST - 1, MOST], True, False)
        self.check([MOST, MOST - 1], False, True)

    def test_sixty_wagons(self):
        self.check(SIXTY, True, False)
        self.check(SIXTY[::-1], False, True)
        large = [MOST - 59 + wagon for wagon in range(60)]
        self.check(large, True, False)
        self.check(large[::-1], False, True)

    def test_the_order_broken_at_one_place(self):
        for row in ([1, 2, 3, 4, 5], SIXTY):
            for place in range(len(row) - 1):
                self.check(swapped(row, place), False, False)
                self.check(swapped(row[::-1], place), False, False)

    def test_every_order_of_up_to_six_wagons(self):
        for count in range(7):
            for row in permutations(range(0, 3 * count, 3)):
                rising = list(row) == sorted(row)
                falling = list(row) == sorted(row, reverse=True)
                self.check(list(row), rising, falling)

    def test_more_than_sixty_wagons_are_not_refused(self):
        self.check(list(range(75)), True, False)
        self.check(list(range(75, 0, -1)), False, True)

    def test_arguments_by_name(self):
        self.assertIs(is_rising(row=[1, 2]), True)
        self.assertIs(is_falling(row=[1, 2]), False)


class StandsIn(unittest.TestCase):
    def check(self, part, row, expected):
        with self.subTest(part=part, row=row):
            handed_part, handed_row = list(part), list(row)
            self.assertIs(stands_in(handed_part, handed_row), expected)
            self.assertEqual(handed_part, part)
            self.assertEqual(handed_row, row)

    def test_the_empty_part(self):
        for row in ([], [4], [4, 9, 2], SIXTY):
            self.check([], row, True)

    def test_the_whole_row(self):
        for row in ([4], [4, 9, 2], SIXTY, [MOST, 0, MOST - 1]):
            self.check(row, row, True)

    def test_wagons_left_out(self):
        row = [4, 9, 2, 7, 1]
        self.check([9, 2, 7, 1], row, True)
        self.check([4, 9, 2, 7], row, True)
        self.check([4, 9, 7, 1], row, True)
        self.check([9, 7], row, True)
        self.check([4, 1], row, True)
        self.check([2], row, True)
        self.check(SIXTY[1::2], SIXTY, True)
        self.check(SIXTY[10:50], SIXTY, True)

    def test_the_wrong_order(self):
        self.check([9, 4], [4, 9, 2], False)
        self.check([2, 4], [4, 9, 2], False)
        self.check([4, 2, 9], [4, 9, 2], False)
        self.check(swapped(SIXTY, 58), SIXTY, False)
        self.check(swapped(SIXTY, 0), SIXTY, False)

    def test_a_wagon_twice(self):
        self.check([4, 4], [4, 9, 2], False)
        self.check([9, 9], [4, 9, 2], False)
        self.check([4, 9, 2, 2], [4, 9, 2], False)
        self.check([4, 9, 4], [4, 9, 2], False)
        self.check([4, 4], [4], False)

    def test_a_number_that_the_row_does_not_have(self):
        self.check([5], [4, 9, 2], False)
        self.check([5, 4, 9], [4, 9, 2], False)
        self.check([4, 5, 9], [4, 9, 2], False)
        self.check([4, 9, 2, 5], [4, 9, 2], False)
        self.check([MOST], [MOST - 1], False)

    def test_an_empty_row(self):
        self.check([], [], True)
        self.check([0], [], False)
        self.check([3, 1], [], False)

    def test_every_short_part_of_every_short_row(self):
        for count in range(5):
            for row in permutations(range(count)):
                parts = {part for size in range(count + 1) for part in combinations(row, size)}
                for size in range(5):
                    for part in product(range(count + 1), repeat=size):
                        self.check(list(part), list(row), part in parts)

    def test_longer_lists_are_not_refused(self):
        row = list(range(75))
        self.check(row, row, True)
        self.check(row[5:72], row, True)
        self.check(row + [3], row, False)

    def test_arguments_by_name(self):
        self.assertIs(stands_in(part=[1], row=[2, 1]), True)
        self.assertIs(stands_in(part=[2, 1], row=[1]), False)


if __name__ == "__main__":
    unittest.main()
