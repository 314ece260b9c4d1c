import copy
import itertools
import unittest

from dustwithin.fractions import fraction_of, is_fraction, writings_of
from tests.things import anything, fractions_to

BASES = range(2, 11)


def told_in_one_way(stem, ring):
    if not ring or (stem and stem[-1] == ring[-1]):
        return False
    return all(ring != ring[:size] * (len(ring) // size) for size in range(1, len(ring)))


def worth(base, stem, ring, digits):
    """The number of so many digits that a writing begins with."""
    number = 0
    for at in range(digits):
        digit = stem[at] if at < len(stem) else ring[(at - len(stem)) % len(ring)]
        number = number * base + digit
    return number


class TestIsFraction(unittest.TestCase):
    def test_fractions(self):
        for thing in ((0, 1), (1, 1), (1, 2), (2, 3), (9, 10), (10 ** 600, 10 ** 600 + 1)):
            with self.subTest(thing=thing):
                self.assertIs(is_fraction(thing), True)

    def test_things_that_are_none(self):
        for thing in anything():
            self.assertIs(is_fraction(thing), False, repr(thing)[:80])

    def test_all_small_pairs(self):
        right = fractions_to(12)
        for pair in itertools.product(range(-13, 14), range(-12, 13)):
            self.assertIs(is_fraction(pair), pair in right, pair)

    def test_truths_are_no_whole_numbers(self):
        for thing in ((False, 1), (0, True), (True, 1), (1, True), (True, True), (True, 2)):
            self.assertIs(is_fraction(thing), False, thing)

    def test_other_parts(self):
        for thing in (("1", 2), (1, "2"), (None, 1), (0, None), ([0], 1), (0, (1,)), ({}, 1)):
            self.assertIs(is_fraction(thing), False, thing)

    def test_tuples_of_one_and_three_and_a_list(self):
        for thing in ((1,), (1, 2, 3), (0, 1, 1), [1, 2], [0, 1], {1: 2, 2: 1}):
            self.assertIs(is_fraction(thing), False, thing)

    def test_not_in_lowest_terms(self):
        for thing in ((0, 2), (2, 2), (2, 4), (10 ** 500, 10 ** 501), (0, 10 ** 500)):
            self.assertIs(is_fraction(thing), False)

    def test_below_nought_above_one_and_no_lower_number(self):
        for thing in ((-1, 2), (-1, 1), (3, 2), (2, 1), (0, 0), (1, 0), (0, -1), (-1, -2), (1, -1)):
            self.assertIs(is_fraction(thing), False, thing)

    def test_what_is_handed_in_stays(self):
        for thing in ([1, 2], {"a": [1]}, (1, [2]), (0, 1)):
            ahead = copy.deepcopy(thing)
            is_fraction(thing)
            self.assertEqual(thing, ahead)


class TestWritingsOf(unittest.TestCase):
    def test_nought_and_one(self):
        for base in BASES:
            self.assertEqual(writings_of(base, (0, 1)), [((), (0,))])
            self.assertEqual(writings_of(base, (1, 1)), [((), (base - 1,))])

    def test_by_hand(self):
        cases = (
            (2, (1, 2), [((1,), (0,)), ((0,), (1,))]),
            (2, (3, 8), [((0, 1, 1), (0,)), ((0, 1, 0), (1,))]),
            (2, (1, 3), [((), (0, 1))]),
            (2, (1, 6), [((0,), (0, 1))]),
            (3, (1, 2), [((), (1,))]),
            (3, (1, 4), [((), (0, 2))]),
            (3, (2, 3), [((2,), (0,)), ((1,), (2,))]),
            (4, (1, 2), [((2,), (0,)), ((1,), (3,))]),
            (6, (1, 4), [((1, 3), (0,)), ((1, 2), (5,))]),
            (10, (1, 7), [((), (1, 4, 2, 8, 5, 7))]),
            (10, (1, 12), [((0, 8), (3,))]),
            (10, (1, 10), [((1,), (0,)), ((0,), (9,))]),
            (10, (1, 1000), [((0, 0, 1), (0,)), ((0, 0, 0), (9,))]),
        )
        for base, fraction, told in cases:
            with self.subTest(base=base, fraction=fraction):
                self.assertEqual(writings_of(base, fraction), told)

    def test_two_writings_just_of_those_that_end(self):
        for base in BASES:
            for n, d in fractions_to(30):
                ends = 0 < n < d and base ** 6 % d == 0
                writings = writings_of(base, (n, d))
                self.assertEqual(len(writings), 2 if ends else 1)
                if ends:
                    self.assertEqual([ring for _, ring in writings], [(0,), (base - 1,)])

    def test_two_writings_where_unlike_factors_run_out_late(self):
        self.assertEqual(len(writings_of(6, (1, 2 ** 40))), 2)
        self.assertEqual(len(writings_of(10, (7, 2 * 5 ** 60))), 2)
        self.assertEqual(len(writings_of(8, (1, 2 ** 100))), 2)

    def test_each_is_told_in_the_one_way(self):
        for base in BASES:
            for fraction in fractions_to(30):
                for stem, ring in writings_of(base, fraction):
                    self.assertTrue(told_in_one_way(stem, ring), (base, fraction))
                    self.assertTrue(all(0 <= digit < base for digit in stem + ring))

    def test_kinds_of_values(self):
        writings = writings_of(10, (1, 4))
        self.assertIs(type(writings), list)
        for writing in writings:
            self.assertIs(type(writing), tuple)
            self.assertEqual([type(part) for part in writing], [tuple, tuple])
            self.assertEqual({type(digit) for part in writing for digit in part}, {int})

    def test_digits_are_those_of_the_fraction(self):
        for base in BASES:
            for n, d in fractions_to(20):
                for stem, ring in writings_of(base, (n, d)):
                    for digits in range(8):
                        number, size = worth(base, stem, ring, digits), base ** digits
                        # what is behind these digits is worth 0 to 1 of the last one
                        self.assertTrue(number * d <= n * size <= (number + 1) * d)

    def test_of_each_writing_the_fraction_again(self):
        for base in BASES:
            for fraction in fractions_to(40):
                for stem, ring in writings_of(base, fraction):
                    self.assertEqual(fraction_of(base, stem, ring), fraction)

    def test_told_lists_are_new_ones(self):
        for fraction in ((0, 1), (1, 1), (1, 2), (1, 3)):
            ahead = writings_of(2, fraction)
            kept = list(ahead)
            ahead.append("mine")
            ahead[0] = None
            self.assertEqual(writings_of(2, fraction), kept)

    def test_a_thousand_digits_of_stem(self):
        for base in BASES:
            size = base ** 1000
            greater, lesser = writings_of(base, (1, size))
            self.assertEqual(greater, ((0,) * 999 + (1,), (0,)))
            self.assertEqual(lesser, ((0,) * 1000, (base - 1,)))
            self.assertEqual(fraction_of(base, *greater), (1, size))
            self.assertEqual(fraction_of(base, *lesser), (1, size))

    def test_a_thousand_digits_of_ring(self):
        for base in BASES:
            ring = tuple(at * at % 7 % base for at in range(999)) + (1,)
            fraction = fraction_of(base, (), ring)
            self.assertTrue(is_fraction(fraction))
            self.assertEqual(writings_of(base, fraction), [((), ring)])

    def test_a_thousand_digits_of_both(self):
        for base in BASES:
            stem = tuple(at * at % 11 % base for at in range(499)) + (0,)
            ring = tuple(at * at % 7 % base for at in range(499)) + (1,)
            fraction = fraction_of(base, stem, ring)
            self.assertEqual(writings_of(base, fraction), [(stem, ring)])

    def test_a_long_ring_of_a_small_fraction(self):
        (stem, ring), = writings_of(10, (1, 983))
        self.assertEqual((stem, len(ring)), ((), 982))
        self.assertEqual(fraction_of(10, stem, ring), (1, 983))

    def test_more_than_a_thousand_digits(self):
        stem = tuple(at * at % 11 % 10 for at in range(3000)) + (0,)
        ring = tuple(at * at % 7 for at in range(9000)) + (1,)
        fraction = fraction_of(10, stem, ring)
        self.assertEqual(writings_of(10, fraction), [(stem, ring)])


class TestFractionOf(unittest.TestCase):
    def test_by_hand(self):
        cases = (
            (2, (), (0,), (0, 1)),
            (2, (), (1,), (1, 1)),
            (2, (1,), (0,), (1, 2)),
            (2, (0,), (1,), (1, 2)),
            (2, (1, 1, 1), (1,), (1, 1)),
            (3, (), (1,), (1, 2)),
            (3, (0,), (2, 0), (1, 4)),
            (10, (), (9,), (1, 1)),
            (10, (), (3,), (1, 3)),
            (10, (0, 8), (3,), (1, 12)),
            (10, (2, 4), (9,), (1, 4)),
        )
        for base, stem, ring, fraction in cases:
            with self.subTest(base=base, stem=stem, ring=ring):
                self.assertEqual(fraction_of(base, stem, ring), fraction)

    def test_of_any_stem_and_ring(self):
        for base in (2, 3):
            parts = [part for size in range(4) for part in itertools.product(range(base), repeat=size)]
            for stem, ring in itertools.product(parts, parts):
                if ring:
                    self.look_at(base, stem, ring)

    def look_at(self, base, stem, ring):
        fraction = fraction_of(base, stem, ring)
        self.assertTrue(is_fraction(fraction), (base, stem, ring))
        self.assertEqual(fraction_of(base, stem, ring + ring), fraction)
        self.assertEqual(fraction_of(base, stem + ring, ring), fraction)
        self.assertEqual(fraction_of(base, stem + ring[:1], ring[1:] + ring[:1]), fraction)
        if told_in_one_way(stem, ring):
            self.assertIn((stem, ring), writings_of(base, fraction))

    def test_is_a_new_pair_of_whole_numbers(self):
        fraction = fraction_of(2, (), (1,))
        self.assertIs(type(fraction), tuple)
        self.assertEqual([type(part) for part in fraction], [int, int])

    def test_a_ring_of_very_many_rounds(self):
        self.assertEqual(fraction_of(10, (), (1, 4, 2, 8, 5, 7) * 100000), (1, 7))
        self.assertEqual(fraction_of(10, [5], [1, 4, 2, 8, 5, 7] * 100000), (18, 35))
        self.assertEqual(fraction_of(2, (), (1,) * 600000), (1, 1))

    def test_of_more_than_a_thousand_digits(self):
        self.assertEqual(fraction_of(10, (3,) * 2500, (3,) * 3000), (1, 3))


if __name__ == "__main__":
    unittest.main()
