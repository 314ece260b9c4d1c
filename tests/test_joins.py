import itertools
import unittest

from dustwithin.errors import DustError, NoBase, NoStretch
from dustwithin.fractions import fraction_of
from dustwithin.joins import joined, met, put, stretch, turned
from dustwithin.points import greatest, is_in, least
from dustwithin.sets import cell_at, is_set, set_of
from tests.things import (
    DUST, HALVES, agreeing_rings, alone, circle, empty, fraction_worth, fractions_to, lone_circle, some_sets, whole,
    worth,
)

FRACTIONS = fractions_to(14)
UNLIKE = (empty(2), empty(3), whole(4), alone(10, (1, 3)))


def points_of(value):
    return {fraction for fraction in FRACTIONS if is_in(value, fraction)}


def pairs_of_sets():
    found = []
    for base in (2, 3, 4, 10):
        found += itertools.product(some_sets(12, bases=(base,)), repeat=2)
    return found


class JoinCase(unittest.TestCase):
    def assert_points(self, value, points):
        """A set, numbered as it has to be, with just these of the fractions."""
        self.assertTrue(is_set(value) or len(value[1]) > 200, value)
        self.assertEqual(points_of(value), points)


class TestJoined(JoinCase):
    def test_by_hand(self):
        # 1/2 and 0
        self.assertEqual(
            joined(alone(2, (1, 2)), alone(2, (0, 1))), (2, ((1, 2), (2, 3), (2, None), (None, 3)))
        )
        self.assertEqual(
            joined(set_of(DUST, "x"), set_of(DUST, "y")),
            (4, ((1, 1, 2, None), (None, 1, 2, None), (1, None, None, None))),
        )

    def test_with_the_empty_set_with_all_and_with_itself(self):
        for value in some_sets(40) + [empty(5), whole(5)]:
            base = value[0]
            self.assertEqual(joined(value, empty(base)), value)
            self.assertEqual(joined(empty(base), value), value)
            self.assertEqual(joined(value, whole(base)), whole(base))
            self.assertEqual(joined(whole(base), value), whole(base))
            self.assertEqual(joined(value, value), value)

    def test_points(self):
        for one, other in pairs_of_sets():
            value = joined(one, other)
            self.assert_points(value, points_of(one) | points_of(other))
            self.assertEqual(joined(other, one), value)

    def test_what_a_row_of_pairs_joins(self):
        for one, other in itertools.product(some_sets(12, bases=(3,)), repeat=2):
            value = joined(one, other)
            for digit in range(3):
                self.assertEqual(cell_at(value, (digit,)), joined(cell_at(one, (digit,)), cell_at(other, (digit,))))

    def test_stretches_that_touch(self):
        for base in range(2, 11):
            for border in ((1, 2), (1, base), (1, 7)):
                value = joined(stretch(base, (0, 1), border), stretch(base, border, (1, 1)))
                self.assertEqual(value, whole(base))

    def test_two_hundred_rows_of_each(self):
        one, other = circle(10, 200, (3, 5), (3,)), circle(10, 199, (3, 5), (5,))
        value = joined(one, other)
        self.assertGreater(len(value[1]), 30000)
        self.assertEqual(cell_at(value, (3,) * 199), cell_at(one, (3,) * 199))
        self.assertEqual((least(value), greatest(value)), (least(one), greatest(other)))
        self.assertEqual(joined(one, circle(10, 200, (3, 5, 7), (3, 7))), circle(10, 200, (3, 5, 7), (3, 7)))

    def test_unlike_bases(self):
        for one, other in itertools.permutations(UNLIKE, 2):
            with self.assertRaises(NoBase):
                joined(one, other)
        with self.assertRaises(DustError):
            joined(empty(2), empty(3))


class TestMet(JoinCase):
    def test_with_the_empty_set_with_all_and_with_itself(self):
        for value in some_sets(40) + [empty(5), whole(5)]:
            base = value[0]
            self.assertEqual(met(value, empty(base)), empty(base))
            self.assertEqual(met(empty(base), value), empty(base))
            self.assertEqual(met(value, whole(base)), value)
            self.assertEqual(met(whole(base), value), value)
            self.assertEqual(met(value, value), value)

    def test_points(self):
        for one, other in pairs_of_sets():
            value = met(one, other)
            self.assert_points(value, points_of(one) & points_of(other))
            self.assertEqual(met(other, one), value)

    def test_sets_that_only_touch_in_a_border(self):
        for base in range(2, 11):
            for digit in range(1, base):
                border = fraction_worth(worth((digit, 1)) / base)
                below, above = stretch(base, (0, 1), border), stretch(base, border, (1, 1))
                self.assertEqual(met(below, above), alone(base, border))
                lower = (base, {"a": ((digit - 1, "m"),), "m": ((base - 1, "m"),)})
                upper = (base, {"a": ((digit, "n"),), "n": ((0, "n"),)})
                self.assertEqual(met(set_of(lower, "a"), set_of(upper, "a")), alone(base, border))

    def test_sets_that_touch_deep_within(self):
        border = fraction_of(3, (1, 2, 0, 1, 1, 2), (0,))
        self.assertEqual(met(stretch(3, (0, 1), border), stretch(3, border, (1, 1))), alone(3, border))

    def test_sets_that_agree_for_long_and_do_not_meet(self):
        for one, other in ((2, 3), (7, 9), (199, 200)):
            ring, second = agreeing_rings(one, other)
            first, last = alone(4, fraction_of(4, (), ring)), alone(4, fraction_of(4, (), second))
            self.assertEqual(met(first, last), empty(4))
            self.assertEqual(met(joined(first, last), last), last)

    def test_two_hundred_rows_of_each(self):
        one, other = circle(10, 200, (3, 5), (3,)), circle(10, 199, (3, 5), (3,))
        value = met(one, other)
        self.assertEqual(len(value[1]), 200 * 199)
        self.assertEqual(least(value), (1, 3))
        self.assertEqual(met(value, one), value)
        self.assertEqual(met(one, circle(10, 200, (3, 7), (7,))), empty(10))

    def test_unlike_bases(self):
        for one, other in itertools.permutations(UNLIKE, 2):
            with self.assertRaises(NoBase):
                met(one, other)
        with self.assertRaises(DustError):
            met(empty(2), empty(3))


class TestTurned(JoinCase):
    def test_by_hand(self):
        self.assertEqual(turned(alone(2, (1, 2))), alone(2, (1, 2)))
        self.assertEqual(turned(alone(2, (0, 1))), alone(2, (1, 1)))
        self.assertEqual(turned(set_of(DUST, "x")), (4, ((None, 1, 0, None), (None, None, None, 0))))
        # all 1 - 1 / 2 ** k, and 1
        book = (2, {"u": ((0, "v"), (1, "u")), "v": ((1, "v"),)})
        self.assertEqual(turned(set_of(HALVES, "u")), set_of(book, "u"))
        for base in range(2, 11):
            self.assertEqual(turned(whole(base)), whole(base))
            self.assertEqual(turned(empty(base)), empty(base))

    def test_points(self):
        for value in some_sets(80):
            self.assert_points(turned(value), {(d - n, d) for n, d in points_of(value)})

    def test_twice_is_the_set_itself(self):
        for value in some_sets(80) + [lone_circle(10, 200)[0], circle(10, 200, (1, 2), (1,))]:
            self.assertEqual(turned(turned(value)), value)


class TestStretch(JoinCase):
    def test_from_nought_to_one(self):
        for base in range(2, 11):
            self.assertEqual(stretch(base, (0, 1), (1, 1)), whole(base))

    def test_from_a_fraction_to_itself(self):
        for base in range(2, 11):
            for fraction in FRACTIONS:
                self.assertEqual(stretch(base, fraction, fraction), alone(base, fraction))

    def test_by_hand(self):
        self.assertEqual(stretch(2, (0, 1), (1, 2)), (2, ((1, 2), (1, 1), (2, None))))
        self.assertEqual(stretch(3, (1, 3), (2, 3)), (3, ((1, 2, 3), (None, None, 1), (2, 2, 2), (3, None, None))))
        self.assertEqual(stretch(3, (1, 2), (1, 1)), (3, ((None, 0, 1), (1, 1, 1))))

    def test_points(self):
        for base in (2, 3, 4, 10):
            for low, high in itertools.product(fractions_to(6), repeat=2):
                if worth(low) <= worth(high):
                    right = {one for one in FRACTIONS if worth(low) <= worth(one) <= worth(high)}
                    self.assert_points(stretch(base, low, high), right)

    def test_between_borders(self):
        for base in range(2, 11):
            for low, high in itertools.combinations_with_replacement(range(base + 1), 2):
                ends = [fraction_worth(worth((end, 1)) / base) for end in (low, high)]
                value = stretch(base, *ends)
                self.assertTrue(is_set(value))
                self.assertEqual([least(value), greatest(value)], ends)
                for digit in range(base):
                    cell = whole(base) if low <= digit < high else empty(base)
                    if digit == high:
                        cell = alone(base, (0, 1))
                    if digit == low - 1:
                        cell = alone(base, (1, 1))
                    self.assertEqual(cell_at(value, (digit,)), cell)

    def test_as_two_sets_that_meet(self):
        for base in (2, 5, 10):
            for low, high in itertools.combinations(sorted(fractions_to(7), key=worth), 2):
                both = met(stretch(base, (0, 1), high), stretch(base, low, (1, 1)))
                self.assertEqual(stretch(base, low, high), both)

    def test_a_thousand_digits(self):
        low = fraction_of(10, (), tuple(at * at % 7 for at in range(999)) + (8,))
        high = fraction_of(10, (9,) * 500 + (1,), (2, 0) * 249 + (1,))
        value = stretch(10, low, high)
        self.assertGreater(len(value[1]), 1900)
        self.assertEqual((least(value), greatest(value)), (low, high))
        self.assertTrue(is_in(value, low) and is_in(value, high) and is_in(value, (1, 2)))
        self.assertFalse(is_in(value, (0, 1)) or is_in(value, (1, 1)))
        self.assertEqual(turned(stretch(10, low, (1, 1))), stretch(10, (0, 1), (low[1] - low[0], low[1])))

    def test_an_end_that_is_less(self):
        for base in (2, 3, 10):
            for low, high in itertools.product(fractions_to(8), repeat=2):
                if worth(low) > worth(high):
                    with self.assertRaises(NoStretch):
                        stretch(base, low, high)
        near = (10 ** 300, 10 ** 300 + 1)
        with self.assertRaises(DustError):
            stretch(10, (1, 1), near)


class TestPut(JoinCase):
    def test_by_hand(self):
        self.assertEqual(put(2, (alone(2, (1, 1)), empty(2))), alone(2, (1, 2)))
        self.assertEqual(put(2, (empty(2), alone(2, (0, 1)))), alone(2, (1, 2)))
        self.assertEqual(put(2, (alone(2, (1, 1)), alone(2, (0, 1)))), alone(2, (1, 2)))
        dust = set_of(DUST, "x")
        self.assertEqual(put(4, (empty(4), dust, cell_at(dust, (2,)), empty(4))), dust)
        self.assertEqual(put(4, (dust, empty(4), empty(4), empty(4))), set_of(DUST, "y"))

    def test_all_and_none(self):
        for base in range(2, 11):
            self.assertEqual(put(base, (whole(base),) * base), whole(base))
            self.assertEqual(put(base, (empty(base),) * base), empty(base))

    def test_a_set_s_own_cells(self):
        for value in some_sets(60) + [whole(7), empty(7), lone_circle(9, 200)[0]]:
            base = value[0]
            self.assertEqual(put(base, tuple(cell_at(value, (digit,)) for digit in range(base))), value)

    def test_points_and_ends_of_neighbours(self):
        for base in (2, 3, 4):
            choice = some_sets(9, bases=(base,)) + [alone(base, (0, 1)), alone(base, (1, 1)), empty(base)]
            for sets in list(itertools.product(choice, repeat=base))[::7 if base < 4 else 97]:
                right = {
                    one for one in FRACTIONS if any(
                        0 <= worth(one) * base - digit <= 1 and is_in(own, fraction_worth(worth(one) * base - digit))
                        for digit, own in enumerate(sets)
                    )
                }
                self.assert_points(put(base, sets), right)

    def test_nought_and_one_come_into_the_neighbour_s_cell(self):
        for base in range(2, 11):
            for digit in range(base):
                for own in (alone(base, (0, 1)), alone(base, (1, 1)), whole(base), alone(base, (1, 2))):
                    sets = [empty(base)] * base
                    sets[digit] = own
                    value = put(base, tuple(sets))
                    self.assertTrue(is_set(value))
                    if digit > 0:
                        lower = alone(base, (1, 1)) if is_in(own, (0, 1)) else empty(base)
                        self.assertEqual(cell_at(value, (digit - 1,)), lower)
                    if digit + 1 < base:
                        upper = alone(base, (0, 1)) if is_in(own, (1, 1)) else empty(base)
                        self.assertEqual(cell_at(value, (digit + 1,)), upper)
                    self.assertEqual(cell_at(value, (digit,)), own)

    def test_ten_sets_of_two_hundred_rows(self):
        sets = tuple(circle(10, 200 - at, (1, 3, 5), (1, 5)) for at in range(10))
        value = put(10, sets)
        self.assertEqual(len(value[1]), 1 + sum(range(191, 201)))
        for at, own in enumerate(sets):
            self.assertEqual(cell_at(value, (at,)), own)

    def test_another_number_of_sets(self):
        for base in range(2, 11):
            for many in (0, 1, base - 1, base + 1, 2 * base):
                if many != base:
                    for own in (whole(base), empty(base)):
                        with self.assertRaises(NoBase):
                            put(base, (own,) * many)

    def test_a_set_of_another_base(self):
        for base in range(2, 11):
            for at in range(base):
                for own in (whole, empty):
                    sets = [own(base)] * base
                    sets[at] = own(base - 1 if base > 2 else 3)
                    with self.assertRaises(NoBase):
                        put(base, tuple(sets))
            with self.assertRaises(NoBase):
                put(base, (whole(base % 9 + 2),) * base)
        with self.assertRaises(DustError):
            put(2, (whole(3), whole(3)))


if __name__ == "__main__":
    unittest.main()
