import random
import unittest

from shuntyard.errors import NoPlan
from shuntyard.notes import read, shown

SIGNS = [chr(number) for number in range(ord(" "), ord("~") + 1) if chr(number) != "%"] + ["\t", "\n"]
FIGURES = "0123456789"
NUMBERS = [0, 1, 9, 10, 19, 90, 99, 100, 101, 999, 1000, 99999, 100000, 123456, 999998, 999999]
GOOD = ["+0", "-0", "+7", "-12", "+10 -10", "+3 -3", "+0 +999999 -0", "-100000 +1 -20"]


def writes_a_number(figures):
    if figures == "0":
        return True
    return 1 <= len(figures) <= 6 and all(figure in FIGURES for figure in figures) and figures[0] != "0"


def plan_written(line):
    """The plan, or None where the text writes none; built up sign by sign from the words of point 12."""
    if line == "":
        return []
    plan, word = [], ""
    for sign in line + " ":
        if sign != " ":
            word += sign
            continue
        if word[:1] not in ("+", "-") or not writes_a_number(word[1:]):
            return None
        plan.append(("in" if word[0] == "+" else "out", int(word[1:])))
        word = ""
    return plan


class NotesCase(unittest.TestCase):
    def check_good(self, line, plan):
        handed = list(plan)
        written = shown(handed)
        self.assertIs(type(written), str)
        self.assertEqual(written, line)
        self.assertEqual(handed, plan)
        self.check_read(line, plan)

    def check_read(self, line, plan):
        told = read(line)
        self.assertIs(type(told), list)
        for deed in told:
            self.assertIs(type(deed), tuple)
            self.assertEqual([type(part) for part in deed], [str, int])
        self.assertEqual(told, plan)

    def check_refused(self, line):
        with self.subTest(line=line):
            try:
                told = read(line)
            except ValueError as error:
                self.assertIs(type(error), NoPlan)
            else:
                self.fail(f"read as {told}")

    def check(self, line):
        plan = plan_written(line)
        if plan is None:
            self.check_refused(line)
        else:
            self.check_good(line, plan)


class Plans(NotesCase):
    def test_the_empty_plan_is_the_empty_text(self):
        self.check_good("", [])

    def test_each_sign(self):
        self.check_good("+3", [("in", 3)])
        self.check_good("-3", [("out", 3)])
        self.check_good("+3 -3", [("in", 3), ("out", 3)])
        self.check_good("-3 +3 +0", [("out", 3), ("in", 3), ("in", 0)])

    def test_each_number(self):
        for number in NUMBERS:
            self.check_good(f"+{number}", [("in", number)])
            self.check_good(f"-{number}", [("out", number)])
            self.check_good(f"-{number} +{number} -0", [("out", number), ("in", number), ("out", 0)])

    def test_two_hundred_deeds_and_somewhat_more(self):
        drawn = random.Random(12)
        for count in (2, 50, 199, 200, 210):
            for most in (9, 99, 999999):
                plan = [(drawn.choice(("in", "out")), drawn.randint(0, most)) for _ in range(count)]
                line = " ".join(("+" if way == "in" else "-") + str(track) for way, track in plan)
                self.check_good(line, plan)

    def test_arguments_by_name(self):
        self.assertEqual(shown(deeds=[("in", 3)]), "+3")
        self.assertEqual(read(line="+3"), [("in", 3)])


class Refusals(NotesCase):
    def test_blanks_more_or_less(self):
        for line in (" ", "  ", " +1", "+1 ", "  +1", "+1  ", "+1  -1", "+1   -1", " +1 -1", "+1 -1 ", "+1-1", "+1+1"):
            self.check_refused(line)

    def test_tabs_and_line_ends(self):
        for sign in ("\t", "\n"):
            for line in (sign, sign + "+1", "+1" + sign, "+1" + sign + "-1", "+1 " + sign, "+1 " + sign + "-1",
                         "+1" + sign + " -1", "+" + sign + "1", "+1 -1" + sign, "+1" + sign + "2", " " + sign):
                self.check_refused(line)

    def test_signs_and_numbers_alone(self):
        for line in ("+", "-", "+ -", "+1 -", "+ 1", "- 1", "+1 - 1", "1", "0", "12", "1 +1", "+1 1", "+1 1 -1"):
            self.check_refused(line)

    def test_signs_twice_or_behind(self):
        for line in ("++1", "--1", "+-1", "-+1", "+1+", "1+", "1-", "+1-", "+1 --1", "+-0", "--0", "++"):
            self.check_refused(line)

    def test_noughts_ahead(self):
        for line in ("+00", "-00", "00", "+01", "-01", "+007", "+09", "+010", "+000000", "+000001", "+0000000", "+1 -02"):
            self.check_refused(line)

    def test_more_than_six_figures(self):
        for line in ("+1000000", "-1000000", "+9999999", "+1 -1234567", "+0000001", "+" + "1" * 40, "-" + "9" * 1999):
            self.check_refused(line)

    def test_letters_and_other_signs(self):
        for line in ("+a", "a", "in 3", "+1a", "+a1", "+1_0", "+_1", "+1_", "+1.0", "+1.", "+.1", "+0x1", "+1e3", "*1",
                     "/1", "+1,-1", "+1;-1", "(+1)", "'+1'", "+1l", "+O", "=1", "~1", "+1~", "!1", "+1/", "+1:", ":1"):
            self.check_refused(line)

    def test_signs_and_figures_from_elsewhere(self):
        for line in ("+\u0661", "+\u00b2", "+1\u0663", "\uff0b1", "\u22121", "+1\u00a0-1", "+1%", "%1", "+\uff11"):
            self.check_refused(line)

    def test_a_bad_word_at_each_place_among_good_ones(self):
        for bad in ("", "+", "1", "+01", "+1000000", "+-1", "+1\n", "\t-1", "+1.", "*1"):
            for place in range(4):
                words = ["+1", "-22", "+0"]
                words.insert(place, bad)
                self.check_refused(" ".join(words))


class EachSignAtEachPlace(NotesCase):
    def test_a_sign_put_in(self):
        for line in GOOD:
            for place in range(len(line) + 1):
                for sign in SIGNS:
                    self.check(line[:place] + sign + line[place:])

    def test_a_sign_put_in_the_place_of_another_or_left_out(self):
        for line in GOOD:
            for place in range(len(line)):
                for sign in SIGNS + [""]:
                    self.check(line[:place] + sign + line[place + 1:])

    def test_all_texts_of_two_signs(self):
        for first in SIGNS:
            self.check(first)
            for second in SIGNS:
                self.check(first + second)

    def test_all_short_texts_of_some_signs(self):
        lines = [""]
        for _ in range(5):
            lines = [line + sign for line in lines for sign in "+- 01\n"]
            for line in lines:
                self.check(line)


class NothingKept(NotesCase):
    def test_the_plan_read_is_as_good_behind_a_change(self):
        for line in ("", "+1", "+1 -1"):
            plan = plan_written(line)
            for change in (list.clear, list.reverse, lambda xs: xs.append(("in", 9))):
                change(read(line))
                self.check_read(line, plan)

    def test_the_plan_handed_in_is_changed_afterwards(self):
        plan = [("in", 1), ("out", 1)]
        written = shown(plan)
        plan.clear()
        self.assertEqual(written, "+1 -1")
        self.assertEqual(shown(plan), "")


if __name__ == "__main__":
    unittest.main()
