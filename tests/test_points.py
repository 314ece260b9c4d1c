import unittest

from dustwithin.books import way_to
from dustwithin.fractions import fraction_of, is_fraction
from dustwithin.points import greatest, is_in, least, over, under
from dustwithin.sets import set_of
from tests.things import (
    DUST, HALVES, alone, circle, empty, fraction_worth, fractions_to, lone_circle, several, small_books, some_books,
    some_sets, whole, worth,
)

FRACTIONS = fractions_to(16)


class TestIsIn(unittest.TestCase):
    def test_by_hand(self):
        dust = set_of(DUST, "x")
        for fraction in ((1, 3), (8, 15), (25, 48)):
            self.assertIs(is_in(dust, fraction), True)
        for fraction in ((0, 1), (1, 1), (1, 2), (1, 12), (2, 15), (2, 3)):
            self.assertIs(is_in(dust, fraction), False)
        halves = set_of(HALVES, "u")
        for fraction in ((0, 1), (1, 2), (1, 4), (1, 2 ** 500)):
            self.assertIs(is_in(halves, fraction), True)
        for fraction in ((1, 1), (3, 4), (1, 3), (3, 2 ** 500), (1, 2 ** 500 + 1)):
            self.assertIs(is_in(halves, fraction), False)

    def test_the_points_of_names(self):
        for book, name in some_books(80) + [(book, "a") for book in small_books()]:
            value = set_of(book, name)
            for fraction in FRACTIONS:
                self.assertIs(is_in(value, fraction), way_to(book, name, fraction) is not None)

    def test_a_border_that_one_writing_alone_tells(self):
        for base in range(2, 11):
            border = (1, base)
            above = (base, {"a": ((1, "n"),), "n": ((0, "n"),)})
            below = (base, {"a": ((0, "m"),), "m": ((base - 1, "m"),)})
            for book in (above, below):
                self.assertIs(is_in(set_of(book, "a"), border), True)
                self.assertIs(is_in(set_of(book, "a"), (0, 1)), False)
                self.assertIs(is_in(set_of(book, "a"), (1, 1)), False)
            # such writings go on along cells for a while
            near = fraction_of(base, (0,) + (base - 1,) * 20, (0,))
            far = fraction_of(base, (1,) + (0,) * 20, (base - 1,))
            for fraction in (near, far):
                self.assertIs(is_in(alone(base, fraction), border), False)
                self.assertIs(is_in(alone(base, fraction), fraction), True)

    def test_nought_and_one(self):
        for base in range(2, 11):
            self.assertIs(is_in(alone(base, (0, 1)), (0, 1)), True)
            self.assertIs(is_in(alone(base, (0, 1)), (1, 1)), False)
            self.assertIs(is_in(alone(base, (1, 1)), (0, 1)), False)
            self.assertIs(is_in(alone(base, (1, 1)), (1, 1)), True)
            for fraction in FRACTIONS:
                self.assertIs(is_in(whole(base), fraction), True)
                self.assertIs(is_in(empty(base), fraction), False)
                self.assertIs(is_in(alone(base, (0, 1)), fraction), fraction == (0, 1))

    def test_a_thousand_digits(self):
        value = circle(10, 200, (1, 4, 8), (4,))
        stem = tuple((1, 4, 8)[at * at % 3] for at in range(199)) + (4,)
        ring = (stem[100:] + stem[:100]) * 4
        self.assertIs(is_in(value, fraction_of(10, stem + stem[:100], ring)), True)
        self.assertIs(is_in(value, fraction_of(10, stem + stem[:100], ring[:799] + (5,))), False)
        self.assertIs(is_in(value, fraction_of(10, stem + stem[:99], ring)), False)
        self.assertIs(is_in(whole(10), fraction_of(10, stem * 2, stem * 2 + (7,) * 200)), True)


class TestEnds(unittest.TestCase):
    def test_by_hand(self):
        self.assertEqual(least(set_of(DUST, "x")), (1, 3))
        self.assertEqual(greatest(set_of(DUST, "x")), (8, 15))
        self.assertEqual(least(set_of(DUST, "y")), (1, 12))
        self.assertEqual(greatest(set_of(DUST, "y")), (2, 15))
        self.assertEqual((least(set_of(HALVES, "u")), greatest(set_of(HALVES, "u"))), ((0, 1), (1, 2)))

    def test_all_and_none(self):
        for base in range(2, 11):
            self.assertEqual((least(whole(base)), greatest(whole(base))), ((0, 1), (1, 1)))
            self.assertIsNone(least(empty(base)))
            self.assertIsNone(greatest(empty(base)))

    def test_single_points(self):
        for base in range(2, 11):
            for fraction in FRACTIONS:
                value = alone(base, fraction)
                self.assertEqual((least(value), greatest(value)), (fraction, fraction))
        value, fraction = lone_circle(10, 200)
        self.assertEqual((least(value), greatest(value)), (fraction, fraction))

    def test_finite_sets(self):
        for base in (2, 3, 10):
            for at in range(0, len(FRACTIONS) - 5, 3):
                points = FRACTIONS[at:at + 5]
                value = several(base, points)
                self.assertEqual(least(value), min(points, key=worth))
                self.assertEqual(greatest(value), max(points, key=worth))

    def test_ends_are_points_and_none_is_beyond_them(self):
        for value in some_sets(80):
            if value == empty(value[0]):
                self.assertIsNone(least(value))
                continue
            low, high = least(value), greatest(value)
            for end in (low, high):
                self.assertTrue(is_fraction(end) and is_in(value, end))
            for fraction in FRACTIONS:
                if is_in(value, fraction):
                    self.assertTrue(worth(low) <= worth(fraction) <= worth(high))


class TestUnderAndOver(unittest.TestCase):
    def assert_beside(self, value, fraction, below, above):
        self.assertEqual(under(value, fraction), below)
        self.assertEqual(over(value, fraction), above)

    def test_by_hand(self):
        dust = set_of(DUST, "x")
        self.assert_beside(dust, (0, 1), None, (1, 3))
        self.assert_beside(dust, (1, 4), None, (1, 3))
        self.assert_beside(dust, (1, 3), (1, 3), (1, 3))
        # between 1 2 0 2 0 .. and 2 0 1 1 ..
        self.assert_beside(dust, (1, 2), (23, 60), (25, 48))
        self.assert_beside(dust, (8, 15), (8, 15), (8, 15))
        self.assert_beside(dust, (2, 3), (8, 15), None)
        self.assert_beside(dust, (1, 1), (8, 15), None)
        halves = set_of(HALVES, "u")
        self.assert_beside(halves, (1, 3), (1, 4), (1, 2))
        self.assert_beside(halves, (3, 4), (1, 2), None)
        self.assert_beside(halves, (0, 1), (0, 1), (0, 1))

    def test_all_and_none(self):
        for base in range(2, 11):
            for fraction in FRACTIONS:
                self.assert_beside(whole(base), fraction, fraction, fraction)
                self.assert_beside(empty(base), fraction, None, None)

    def test_finite_sets(self):
        for base in (2, 3, 4, 10):
            for at in range(0, len(FRACTIONS) - 4, 7):
                points = FRACTIONS[at:at + 4]
                value = several(base, points)
                for fraction in FRACTIONS:
                    below = [one for one in points if worth(one) <= worth(fraction)]
                    above = [one for one in points if worth(one) >= worth(fraction)]
                    self.assert_beside(
                        value, fraction, max(below, key=worth, default=None), min(above, key=worth, default=None)
                    )

    def test_nothing_of_the_set_is_between(self):
        for value in some_sets(60):
            points = [fraction for fraction in FRACTIONS if is_in(value, fraction)]
            for fraction in FRACTIONS:
                below, above = under(value, fraction), over(value, fraction)
                if fraction in points:
                    self.assertEqual((below, above), (fraction, fraction))
                    continue
                self.assertTrue(below is None or (is_in(value, below) and worth(below) < worth(fraction)))
                self.assertTrue(above is None or (is_in(value, above) and worth(above) > worth(fraction)))
                for point in points:
                    end = below if worth(point) < worth(fraction) else above
                    self.assertIsNotNone(end)
                    self.assertTrue(abs(worth(point) - worth(fraction)) >= abs(worth(end) - worth(fraction)))

    def test_both_ends_of_a_gap(self):
        for value in some_sets(60):
            for fraction in FRACTIONS:
                below, above = under(value, fraction), over(value, fraction)
                if below is not None and above is not None and below != above:
                    middle = fraction_worth((worth(below) + worth(above)) / 2)
                    self.assert_beside(value, middle, below, above)
                    near = fraction_worth(worth(above) - (worth(above) - worth(below)) / value[0] ** 20)
                    self.assert_beside(value, near, below, above)

    def test_borders_within_gaps(self):
        # of 0 and 2 again and again to base 3
        cantor = set_of((3, {"c": ((0, "c"), (2, "c"))}), "c")
        self.assert_beside(cantor, (1, 3), (1, 3), (1, 3))
        self.assert_beside(cantor, (1, 2), (1, 3), (2, 3))
        self.assert_beside(cantor, (4, 27), (1, 9), (2, 9))
        outer = set_of((3, {"a": ((0, "c"), (1, "e"), (2, "c")), "c": ((1, "c"),), "e": ()}), "a")
        self.assert_beside(outer, (1, 3), (1, 6), (5, 6))
        self.assert_beside(outer, (2, 3), (1, 6), (5, 6))

    def test_hundreds_of_digits(self):
        for size in (100, 400, 999):
            step = 2 ** size
            halves = set_of(HALVES, "u")
            self.assert_beside(halves, (1, step), (1, step), (1, step))
            self.assert_beside(halves, (3, step), (1, step // 2), (1, step // 4))
            self.assert_beside(halves, (step // 2 + 1, step), (1, 2), None)
            dust = set_of(DUST, "x")
            # 1 .. 1 0: as many ones as go, then the greatest way below, the least one above
            fraction = fraction_of(4, (1,) * (size - 1) + (0, 1), (0,))
            below = under(dust, fraction)
            above = over(dust, fraction)
            self.assertIsNone(below)
            self.assertEqual(above, (1, 3))
            fraction = fraction_of(4, (1,) * (size - 1) + (2, 1), (0,))
            self.assertEqual(under(dust, fraction), fraction_of(4, (1,) * (size - 1), (2, 0)))
            self.assertEqual(over(dust, fraction), fraction_of(4, (1,) * (size - 2) + (2, 0), (1,)))

    def test_a_way_that_ends_after_many_rounds(self):
        # the ring of three goes along the circle of fifty for a hundred and forty-nine digits
        value = circle(10, 50, (1, 2, 3), (3,))
        fraction = fraction_of(10, (), (3, 3, 2))
        self.assertIs(is_in(value, fraction), False)
        below, above = under(value, fraction), over(value, fraction)
        self.assertTrue(is_in(value, below) and is_in(value, above))
        along = (3, 3, 2) * 50
        self.assertEqual(above, fraction_of(10, along[:149], (3,) + (1,) * 49))
        self.assertEqual(below, fraction_of(10, along[:148] + (2,), (3,) * 50))


if __name__ == "__main__":
    unittest.main()
