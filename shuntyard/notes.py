"""Plans written as texts, and read from them."""

from shuntyard.errors import NoPlan
from shuntyard.tracks import ENTERING
from shuntyard.tracks import LEAVING

FIGURES = "0123456789"
MOST_FIGURES = 6


def shown(deeds):
    return " ".join([word_of(deed) for deed in deeds])


def word_of(deed):
    sign = "+" if deed[0] == ENTERING else "-"
    return sign + str(deed[1])


def read(line):
    # The empty text parts into one empty word, but it writes the plan of no deed.
    if line == "":
        return []
    return [deed_of(word) for word in line.split(" ")]


def deed_of(word):
    figures = word[1:]
    if is_number(figures) and word[0] == "+":
        return (ENTERING, int(figures))
    if is_number(figures) and word[0] == "-":
        return (LEAVING, int(figures))
    raise NoPlan(f"{word!r} writes no deed")


# Asked figure by figure, since Python's own reading of numbers lets by blanks, signs and underscores.
def is_number(text):
    if len(text) < 1 or len(text) > MOST_FIGURES:
        return False
    for sign in text:
        if sign not in FIGURES:
            return False
    return text == "0" or text[0] != "0"
