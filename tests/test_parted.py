import itertools
import unittest

from dustwithin.books import way_to
from dustwithin.errors import DustError, NoBase
from dustwithin.fractions import fraction_of
from dustwithin.joins import beyond, is_part, joined, met
from dustwithin.points import is_in
from dustwithin.sets import is_set, parted, set_of
from tests.things import (
    DUST, HALVES, agreeing_rings, alone, circle, empty, fraction_worth, fractions_to, lone_circle, small_books,
    some_books, some_sets, whole, worth,
)


def is_empty_by(value, word):
    rows, here = value[1], 0 if value[1] else None
    for digit in word:
        here = rows[here][digit] if here is not None else None
    return here is None


def first_word(one, other, right):
    """The first row of digits, of at most six, whose two cells' emptiness is right, by looking at all."""
    for size in range(7):
        for word in itertools.product(range(one[0]), repeat=size):
            if right(is_empty_by(one, word), is_empty_by(other, word)):
                return word
    return None


def least_behind(value, word):
    """The least point of a cell, by the least digit that has a cell, again and again."""
    digits = list(word)
    places = {}
    while cell_number(value, digits) not in places:
        places[cell_number(value, digits)] = len(digits)
        digits.append(min(digit for digit in range(value[0]) if not is_empty_by(value, digits + [digit])))
    back = places[cell_number(value, digits)]
    return fraction_of(value[0], tuple(digits[:back]), tuple(digits[back:]))


def cell_number(value, word):
    here = 0
    for digit in word:
        here = value[1][here][digit]
    return here


def pairs_of_sets():
    found = [(one, other) for one, other in itertools.product(some_sets(24, bases=(2,)), repeat=2)]
    found += [(one, other) for one, other in itertools.product(some_sets(16, bases=(3,)), repeat=2)]
    return found + [(one, other) for one, other in itertools.product(some_sets(8, bases=(4,)), repeat=2)]


class TestParted(unittest.TestCase):
    def test_one_value(self):
        for value in some_sets(40) + [empty(5), whole(7)]:
            self.assertIsNone(parted(value, value))

    def test_by_hand(self):
        half, nought, one = alone(2, (1, 2)), alone(2, (0, 1)), alone(2, (1, 1))
        cases = (
            # by no digits
            (empty(2), whole(2), ((0, 1), 1)),
            (half, empty(2), ((1, 2), 0)),
            # by 0, then by 1
            (half, one, ((1, 2), 0)),
            (half, nought, ((1, 2), 0)),
            (nought, one, ((0, 1), 0)),
            (whole(2), nought, ((1, 2), 0)),
            (whole(2), half, ((0, 1), 0)),
            (set_of(HALVES, "u"), nought, ((1, 2), 0)),
            # by 1 1
            (set_of(HALVES, "u"), whole(2), ((3, 4), 1)),
            (set_of(DUST, "x"), whole(4), ((0, 1), 1)),
            (set_of(DUST, "y"), set_of(DUST, "x"), ((1, 12), 0)),
        )
        for one, other, told in cases:
            self.assertEqual(parted(one, other), told)
            self.assertEqual(parted(other, one), (told[0], 1 - told[1]))

    def test_the_first_row_of_digits_and_the_least_point_there(self):
        for one, other in pairs_of_sets():
            told = parted(one, other)
            if one == other:
                self.assertIsNone(told)
                continue
            word = first_word(one, other, lambda lacks, other_lacks: lacks != other_lacks)
            if word is None:
                continue
            side = 1 if is_empty_by(one, word) else 0
            fraction = least_behind((one, other)[side], word)
            self.assertEqual(told, (fraction, side))
            self.assertEqual(parted(other, one), (fraction, 1 - side))

    def test_tells_a_point_of_one_alone(self):
        for (one, name), (other, second) in itertools.combinations(some_books(40, bases=(2, 3)), 2):
            if one[0] != other[0]:
                continue
            told = parted(set_of(one, name), set_of(other, second))
            if told is not None:
                fraction, side = told
                self.assertIs(way_to(one, name, fraction) is not None, side == 0)
                self.assertIs(way_to(other, second, fraction) is not None, side == 1)

    def test_none_just_where_no_fraction_is_of_one_alone(self):
        fractions = fractions_to(16)
        values = [set_of(book, name) for book in small_books()[::5] for name in "ab"]
        points = [{one for one in fractions if is_in(value, one)} for value in values]
        for (value, own), (other, others) in itertools.combinations(list(zip(values, points)), 2):
            self.assertIs(parted(value, other) is None, own == others)

    def test_points_that_agree_for_long(self):
        for one, other in ((2, 3), (7, 9), (50, 59), (199, 200), (200, 199)):
            ring, second = agreeing_rings(one, other)
            long, other_long = ring * (other + 1), second * (one + 1)
            self.assertEqual(long[:one + other - 2], other_long[:one + other - 2])
            self.assertNotEqual(long[one + other - 2], other_long[one + other - 2])
            first, last = fraction_of(4, (), ring), fraction_of(4, (), second)
            sets = alone(4, first), alone(4, last)
            self.assertTrue(is_set(sets[0]) and is_set(sets[1]))
            # by the lesser digit the one that has it has a cell
            side = 0 if long[one + other - 2] < other_long[one + other - 2] else 1
            self.assertEqual(parted(*sets), ((first, last)[side], side))
            self.assertEqual(parted(*sets[::-1]), ((first, last)[side], 1 - side))

    def test_sets_that_part_behind_two_hundred_digits(self):
        one, other = circle(10, 200, (3, 5, 6), (3, 6)), circle(10, 200, (3, 5, 6), (3,))
        fraction = fraction_of(10, (3,) * 199 + (6,), (3,))
        self.assertEqual(parted(one, other), (fraction, 0))
        self.assertEqual(parted(other, one), (fraction, 1))
        fraction = fraction_of(10, (3,) * 198 + (5,), (3,))
        self.assertEqual(parted(one, circle(10, 199, (3, 5, 6), (3, 6))), (fraction, 0))

    def test_unlike_bases(self):
        for one, other in itertools.permutations((empty(2), whole(3), alone(4, (1, 3)), empty(10)), 2):
            with self.assertRaises(NoBase):
                parted(one, other)
        with self.assertRaises(DustError):
            parted(empty(2), empty(3))

    def test_what_other_functions_told_may_be_handed_on(self):
        one, other = circle(10, 29, (3, 5), (3,)), circle(10, 31, (3, 5), (3,))
        both, either = met(one, other), joined(one, other)
        self.assertGreater(len(both[1]), 800)
        fraction, side = parted(both, either)
        self.assertEqual((fraction, side), (fraction_of(10, (3,) * 28 + (5,), (3,)), 1))
        self.assertIsNone(parted(both, met(other, one)))
        self.assertIsNone(parted(either, joined(other, one)))


class TestIsPartAndBeyond(unittest.TestCase):
    def assert_part(self, one, other):
        self.assertIs(is_part(one, other), True)
        self.assertIsNone(beyond(one, other))

    def assert_beyond(self, one, other, fraction):
        self.assertIs(is_part(one, other), False)
        self.assertEqual(beyond(one, other), fraction)

    def test_by_hand(self):
        half, nought = alone(2, (1, 2)), alone(2, (0, 1))
        self.assert_beyond(whole(2), half, (0, 1))
        self.assert_beyond(whole(2), nought, (1, 2))
        self.assert_beyond(half, nought, (1, 2))
        self.assert_beyond(nought, half, (0, 1))
        self.assert_beyond(set_of(HALVES, "u"), nought, (1, 2))
        self.assert_beyond(whole(2), set_of(HALVES, "u"), (3, 4))
        self.assert_part(half, set_of(HALVES, "u"))
        self.assert_part(nought, set_of(HALVES, "u"))
        self.assert_beyond(set_of(DUST, "x"), set_of(DUST, "y"), (1, 3))
        self.assert_beyond(set_of(DUST, "y"), set_of(DUST, "x"), (1, 12))

    def test_empty_sets_and_all(self):
        for value in some_sets(40):
            base = value[0]
            self.assert_part(value, value)
            self.assert_part(empty(base), value)
            self.assert_part(value, whole(base))
            self.assertIs(is_part(value, empty(base)), value == empty(base))

    def test_beyond_the_empty_set_is_the_least_point(self):
        self.assert_beyond(set_of(DUST, "x"), empty(4), fraction_of(4, (), (1,)))
        self.assert_beyond(set_of(DUST, "y"), empty(4), (1, 12))

    def test_the_first_row_of_digits_and_the_least_point_there(self):
        for one, other in pairs_of_sets():
            word = first_word(one, other, lambda lacks, other_lacks: not lacks and other_lacks)
            if word is not None:
                self.assert_beyond(one, other, least_behind(one, word))
            fraction = beyond(one, other)
            if fraction is None:
                self.assert_part(one, other)
                self.assertEqual(met(one, other), one)
            else:
                self.assert_beyond(one, other, fraction)
                self.assertTrue(is_in(one, fraction) and not is_in(other, fraction))

    def test_a_border_is_in_a_set_without_the_stretch_above_it(self):
        for base in range(2, 11):
            for digit in range(1, base):
                others = tuple((own, "all") for own in range(base) if own != digit)
                book = (base, {"some": others, "all": tuple((own, "all") for own in range(base))})
                border = fraction_worth(worth((digit, 1)) / base)
                self.assert_part(alone(base, border), set_of(book, "some"))
                inside = fraction_worth((digit + worth((1, 3))) / base)
                self.assert_beyond(alone(base, inside), set_of(book, "some"), inside)

    def test_long_rings(self):
        for one, other in ((7, 9), (199, 200)):
            ring, second = agreeing_rings(one, other)
            first, last = fraction_of(4, (), ring), fraction_of(4, (), second)
            self.assert_beyond(alone(4, first), alone(4, last), first)
            self.assert_beyond(alone(4, last), alone(4, first), last)
        value, fraction = lone_circle(10, 200)
        self.assert_part(value, circle(10, 200, (1,), (1, 2)))
        self.assert_beyond(circle(10, 200, (1,), (1, 2)), value, fraction_of(10, (), (1,)))
        self.assertIs(is_in(value, fraction), True)

    def test_unlike_bases(self):
        for told in (is_part, beyond):
            for one, other in itertools.permutations((empty(2), whole(3), empty(4), alone(10, (1, 3))), 2):
                with self.assertRaises(NoBase):
                    told(one, other)


if __name__ == "__main__":
    unittest.main()
