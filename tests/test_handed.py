import copy
import itertools
import unittest

from dustwithin.books import is_book
from dustwithin.fractions import is_fraction
from dustwithin.gaps import Gaps, how_many_gaps, longer
from dustwithin.joins import beyond, is_part, joined, met, put, stretch, turned
from dustwithin.lengths import cells_at, full_at, length
from dustwithin.limits import how_many, is_single, kernel, limits, rank, single_of
from dustwithin.mixes import mixed, shown
from dustwithin.points import greatest, is_in, least, over, under
from dustwithin.sets import book_of, cell_at, is_set, parted, set_of
from dustwithin.shares import at_most, is_shared, just_at, mean, spread
from dustwithin.texts import read_book, read_fraction, read_set, show_book, show_fraction, show_set
from tests.things import DUST, HALVES, empty, some_sets, whole

HALF = (1, 2)
SHARED = (3, {"b": ((1, "a", (1, 3)), (2, "b", (2, 3))), "a": ((0, "b", (1, 1)),)})


def calls():
    """Each function behind books, with what it may be handed, and whether what it tells is of the right kind."""
    found = []
    for base in (2, 3, 4):
        values = some_sets(5, bases=(base,)) + [empty(base), whole(base)]
        for one, other in zip(values, values[1:]):
            found += [
                (is_set, (one,), is_truth), (book_of, (one,), is_told_book), (cell_at, (one, (0, 1)), is_told_set),
                (parted, (one, other), is_place), (is_in, (one, HALF), is_truth), (least, (one,), is_point),
                (greatest, (one,), is_point), (under, (one, HALF), is_point), (over, (one, HALF), is_point),
                (joined, (one, other), is_told_set), (met, (one, other), is_told_set), (turned, (one,), is_told_set),
                (stretch, (base, HALF, (2, 3)), is_told_set),
                (put, (base, (one, other, one, other)[:base]), is_told_set),
                (is_part, (one, other), is_truth), (beyond, (one, other), is_point),
                (mixed, ((one, other), (1, -1), 0, 1), is_told_set),
                (shown, ((one, other), (1, 1), 0, 2, HALF), are_points),
                (length, (one,), is_fraction), (cells_at, (one, 5), is_number), (full_at, (one,), are_digits),
                (how_many_gaps, (one,), is_count), (longer, (one, (1, 20)), are_gaps), (told_by_gaps, (one,), are_gaps),
                (limits, (one,), is_told_set), (kernel, (one,), is_told_set), (rank, (one,), is_number),
                (how_many, (one,), is_count), (is_single, (one, HALF), is_truth), (single_of, (one,), is_point),
            ]
    for function in (at_most, just_at):
        for name, fraction in itertools.product("ab", ((0, 1), HALF, (5, 7))):
            found.append((function, (SHARED, name, fraction), is_point))
    for function in (mean, spread):
        found += [(function, (SHARED, name), is_point) for name in "ab"]
    found += [
        (is_shared, (SHARED,), is_truth), (show_fraction, (HALF,), is_text), (show_book, (DUST,), is_text),
        (show_set, (whole(3),), is_text), (read_fraction, ("1/2",), is_point),
        (read_book, ("4\nx = -",), is_book), (read_set, ("3\n0 0 0",), is_told_set),
    ]
    return found + [(set_of, (DUST, "x"), is_told_set), (set_of, (HALVES, "v"), is_told_set)]


def told_by_gaps(value):
    teller = Gaps(value)
    gaps = [teller.more() for _ in range(5)]
    # what is done to what was told turns nothing
    teller.told().clear()
    return teller.told() + [teller.more()] if None not in gaps else teller.told()


def is_number(told):
    return type(told) is int and told >= 0


def is_count(told):
    return told is None or is_number(told)


def are_digits(told):
    return told is None or (type(told) is tuple and all(is_number(digit) for digit in told))


def are_gaps(told):
    gaps = [gap for gap in told if gap is not None]
    return type(told) is list and all(type(gap) is tuple and are_points(gap) for gap in gaps)


def is_text(told):
    return type(told) is str


def is_truth(told):
    return told is True or told is False


def is_point(told):
    return told is None or is_fraction(told)


def are_points(told):
    return told is None or (type(told) is tuple and len(told) == 2 and all(is_fraction(one) for one in told))


def is_place(told):
    return told is None or (type(told) is tuple and is_fraction(told[0]) and type(told[1]) is int and told[1] in (0, 1))


def is_told_set(told):
    return is_set(told) and type(told) is tuple and type(told[1]) is tuple


def is_told_book(told):
    (base, rows), name = told
    return type(told) is tuple and type(base) is int and type(rows) is dict and type(name) is str


class TestHandedIn(unittest.TestCase):
    def test_what_is_handed_in_stays_and_like_things_are_told_of_like_ones(self):
        for function, things, right in calls():
            with self.subTest(function=function.__name__, things=things):
                ahead = copy.deepcopy(things)
                told = function(*things)
                self.assertEqual(repr(things), repr(ahead))
                self.assertTrue(right(told), told)
                self.assertEqual(function(*things), told)
                self.assertEqual(repr(things), repr(ahead))

    def test_every_function_behind_books_is_looked_at(self):
        names = {function.__name__ for function, _, _ in calls()}
        self.assertEqual(len(names), 42)


if __name__ == "__main__":
    unittest.main()
