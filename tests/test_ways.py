import copy
import itertools
import math
import unittest

from dustwithin.books import live, point_by, way_to
from dustwithin.errors import DustError, NoWay
from dustwithin.fractions import fraction_of, is_fraction, writings_of
from tests.things import DUST, HALVES, anything, fractions_to, small_books


def points_among(book, d):
    """All (n, name) so that n / d is a point of name, by stretching alone, without writings."""
    base, rows = book
    kept = {(n, name) for n in range(d + 1) for name in rows}
    while True:
        going = {
            (n, name) for n, name in kept
            if any((n * base - digit * d, other) in kept for digit, other in rows[name])
        }
        if going == kept:
            return kept
        kept = going


def is_way(book, name, stem, ring):
    """Whether a thing of the right kinds is a way of the name, as point 5 says it."""
    here = name
    for pair in stem + ring:
        if pair not in book[1][here]:
            return False
        here = pair[1]
    return ring[0] in book[1][here]


class WayCase(unittest.TestCase):
    def look_at_way(self, book, name, fraction):
        """Looks at what way_to tells of a point."""
        way = way_to(book, name, fraction)
        self.assertIs(type(way), tuple)
        stem, ring = way
        self.assertEqual((type(stem), type(ring)), (tuple, tuple))
        self.assertTrue(ring)
        self.assertTrue(is_way(book, name, stem, ring), (book, name, fraction))
        self.assertEqual(point_by(book, name, stem, ring), fraction)
        return way


class TestPointBy(WayCase):
    def assert_no_way(self, book, name, stem, ring):
        with self.assertRaises(NoWay):
            point_by(book, name, stem, ring)

    def test_ways_without_a_stem(self):
        self.assertEqual(point_by(DUST, "x", (), ((1, "x"),)), (1, 3))
        self.assertEqual(point_by(DUST, "x", (), ((2, "y"), (0, "x"))), (8, 15))
        self.assertEqual(point_by(DUST, "y", (), ((0, "x"), (2, "y"))), (2, 15))
        self.assertEqual(point_by(HALVES, "u", (), ((0, "u"),)), (0, 1))
        self.assertEqual(point_by((2, {"a": ((1, "a"),)}), "a", (), ((1, "a"),)), (1, 1))

    def test_ways_with_a_stem(self):
        self.assertEqual(point_by(DUST, "y", ((0, "x"),), ((1, "x"),)), (1, 12))
        self.assertEqual(point_by(DUST, "x", ((2, "y"), (0, "x")), ((1, "x"),)), (25, 48))
        self.assertEqual(point_by(HALVES, "u", ((0, "u"), (1, "v")), ((0, "v"),)), (1, 4))

    def test_ring_told_twice_or_put_to_stem(self):
        stem, ring = ((1, "x"), (2, "y"), (0, "x")), ((1, "x"), (1, "x"), (2, "y"), (0, "x"))
        fraction = point_by(DUST, "x", stem, ring)
        self.assertTrue(is_fraction(fraction))
        self.assertEqual(point_by(DUST, "x", stem, ring + ring), fraction)
        self.assertEqual(point_by(DUST, "x", stem, ring * 3), fraction)
        self.assertEqual(point_by(DUST, "x", stem + ring, ring), fraction)
        self.assertEqual(point_by(DUST, "x", stem + ring[:1], ring[1:] + ring[:1]), fraction)

    def test_all_short_ways_and_all_that_are_none(self):
        for book in (DUST, HALVES):
            pairs = sorted({pair for row in book[1].values() for pair in row})
            parts = [part for size in range(4) for part in itertools.product(pairs, repeat=size)]
            for name, stem, ring in itertools.product(book[1], parts, parts):
                if ring and is_way(book, name, stem, ring):
                    fraction = point_by(book, name, stem, ring)
                    digits = [tuple(digit for digit, _ in part) for part in (stem, ring)]
                    self.assertEqual(fraction, fraction_of(book[0], *digits))
                else:
                    self.assert_no_way(book, name, stem, ring)

    def test_an_empty_ring(self):
        self.assert_no_way(DUST, "x", (), ())
        self.assert_no_way(DUST, "x", ((1, "x"),), ())

    def test_parts_of_other_kinds(self):
        ring = ((1, "x"),)
        for thing in anything():
            self.assert_no_way(DUST, "x", (), thing)
            self.assert_no_way(DUST, "x", (), (thing,))
            self.assert_no_way(DUST, "x", (), ring + (thing,))
            self.assert_no_way(DUST, "x", (thing,), ring)
            self.assert_no_way(DUST, "x", ring + (thing,), ring)
            self.assert_no_way(DUST, "x", thing, thing)
            if thing != ():
                self.assert_no_way(DUST, "x", thing, ring)

    def test_lists_and_dicts_of_right_pairs(self):
        self.assert_no_way(DUST, "x", [], ((1, "x"),))
        self.assert_no_way(DUST, "x", [(1, "x")], ((1, "x"),))
        self.assert_no_way(DUST, "x", (), [(1, "x")])
        self.assert_no_way(DUST, "x", (), ([1, "x"],))
        self.assert_no_way(DUST, "x", ([1, "x"],), ((1, "x"),))
        self.assert_no_way(DUST, "x", (), {(1, "x"): (1, "x")})
        self.assert_no_way(DUST, "x", (), (1, "x"))

    def test_digits_that_are_truths(self):
        self.assert_no_way(DUST, "x", (), ((True, "x"),))
        self.assert_no_way(DUST, "x", ((True, "x"),), ((1, "x"),))
        self.assert_no_way(DUST, "y", ((False, "x"),), ((1, "x"),))
        self.assert_no_way(DUST, "x", (), ((2, "y"), (False, "x")))

    def test_pairs_with_other_parts(self):
        for pair in ((1,), (1, "x", 1), (None, "x"), ("1", "x"), ((1,), "x"), ([1], "x"), (1, None),
                     (1, 1), (1, ["x"]), (1, {"x": 1}), (1, ("x",)), (1, ""), (1, "X"), (1, "z")):
            self.assert_no_way(DUST, "x", (), (pair,))
            self.assert_no_way(DUST, "x", (pair,), ((1, "x"),))
            self.assert_no_way(DUST, "x", (), ((1, "x"), pair))

    def test_the_first_pair_is_of_another_name_s_row(self):
        self.assert_no_way(DUST, "y", (), ((1, "x"),))
        self.assert_no_way(DUST, "y", ((2, "y"),), ((0, "x"), (2, "y")))
        self.assert_no_way(DUST, "x", ((0, "x"),), ((1, "x"),))

    def test_a_pair_is_not_of_the_row_ahead(self):
        self.assert_no_way(DUST, "x", ((1, "x"), (0, "x")), ((1, "x"),))
        self.assert_no_way(DUST, "x", ((2, "y"),), ((1, "x"),))
        self.assert_no_way(DUST, "x", (), ((1, "x"), (0, "x"), (1, "x")))
        self.assert_no_way(DUST, "x", ((3, "x"),), ((1, "x"),))
        self.assert_no_way(DUST, "x", ((1, "y"),), ((0, "x"), (2, "y")))

    def test_the_ring_does_not_come_round(self):
        self.assert_no_way(DUST, "x", (), ((2, "y"),))
        self.assert_no_way(DUST, "x", (), ((1, "x"), (2, "y")))
        self.assert_no_way(HALVES, "u", (), ((1, "v"),))
        self.assert_no_way(HALVES, "u", (), ((0, "u"), (1, "v")))

    def test_the_ring_does_not_begin_behind_the_stem(self):
        book = (2, {"a": ((0, "b"), (1, "b")), "b": ((0, "a"), (1, "c")), "c": ((1, "c"),)})
        self.assert_no_way(book, "a", (), ((1, "c"),))
        self.assert_no_way(book, "a", ((0, "b"),), ((0, "b"), (0, "a")))
        self.assertEqual(point_by(book, "a", ((0, "b"), (0, "a")), ((0, "b"), (0, "a"))), (0, 1))

    def test_a_name_without_ways_has_none(self):
        book = (2, {"a": ((0, "b"),), "b": (), "c": ((0, "c"),)})
        self.assert_no_way(book, "a", (), ((0, "b"),))
        self.assert_no_way(book, "b", (), ((0, "c"),))
        self.assert_no_way(book, "a", ((0, "b"),), ((0, "c"),))

    def test_no_way_is_a_dust_error(self):
        with self.assertRaises(DustError):
            point_by(DUST, "x", None, None)

    def test_what_is_handed_in_stays(self):
        book, way = copy.deepcopy(DUST), [[(1, "x")], ((1, "x"),)]
        self.assert_no_way(book, "x", *way)
        self.assertEqual((book, way), (DUST, [[(1, "x")], ((1, "x"),)]))

    def test_a_long_way(self):
        ring = ((2, "y"), (0, "x")) * 1000 + ((1, "x"),) * 500
        fraction = point_by(DUST, "x", ring, ring)
        self.assertEqual(fraction, point_by(DUST, "x", (), ring))
        self.look_at_way(DUST, "x", fraction)


class TestWayTo(WayCase):
    def test_points_by_hand(self):
        self.assertEqual(way_to(DUST, "x", (1, 3)), ((), ((1, "x"),)))
        for name, fraction in (("x", (8, 15)), ("y", (2, 15)), ("y", (1, 12)), ("x", (25, 48))):
            self.look_at_way(DUST, name, fraction)
        for fraction in ((0, 1), (1, 2), (1, 4), (1, 2 ** 500)):
            self.look_at_way(HALVES, "u", fraction)
        self.look_at_way(HALVES, "v", (0, 1))

    def test_fractions_that_are_no_points(self):
        for fraction in ((0, 1), (1, 1), (1, 2), (1, 12), (2, 15), (2, 3)):
            self.assertIsNone(way_to(DUST, "x", fraction))
        for fraction in ((1, 1), (1, 3), (3, 4), (1, 2 ** 500 + 1), (3, 2 ** 500)):
            self.assertIsNone(way_to(HALVES, "u", fraction))
        self.assertIsNone(way_to(HALVES, "v", (1, 2)))

    def test_names_without_ways(self):
        book = (2, {"a": ((0, "b"), (1, "b")), "b": (), "c": ((0, "c"), (1, "c"))})
        for fraction in fractions_to(6):
            self.assertIsNone(way_to(book, "a", fraction))
            self.assertIsNone(way_to(book, "b", fraction))
            self.look_at_way(book, "c", fraction)

    def test_a_way_by_the_greater_writing_alone(self):
        book = (3, {"a": ((1, "b"),), "b": ((0, "b"),)})
        self.assertEqual(self.look_at_way(book, "a", (1, 3)), (((1, "b"),), ((0, "b"),)))

    def test_a_way_by_the_lesser_writing_alone(self):
        book = (3, {"a": ((0, "b"),), "b": ((2, "b"),)})
        self.assertEqual(self.look_at_way(book, "a", (1, 3)), (((0, "b"),), ((2, "b"),)))

    def test_nought_and_one(self):
        for base in range(2, 11):
            book = (base, {"n": ((0, "n"),), "m": ((base - 1, "m"),), "k": ((0, "m"), (1, "n"))})
            self.assertEqual(way_to(book, "n", (0, 1)), ((), ((0, "n"),)))
            self.assertEqual(way_to(book, "m", (1, 1)), ((), ((base - 1, "m"),)))
            for name, fraction in (("n", (1, 1)), ("m", (0, 1)), ("k", (0, 1)), ("k", (1, 1))):
                self.assertIsNone(way_to(book, name, fraction))
            self.look_at_way(book, "k", (1, base))

    def test_a_first_pair_that_leads_to_nothing_is_passed_over(self):
        book = (2, {"a": ((0, "b"), (0, "c")), "b": ((0, "d"),), "c": ((1, "a"),), "d": ((0, "b"), (0, "e")),
                    "e": ()})
        self.assertEqual(self.look_at_way(book, "a", (1, 3)), ((), ((0, "c"), (1, "a"))))

    def test_ways_that_take_several_rounds_of_the_ring(self):
        names = "abcdef"
        rows = {name: ((0, other),) for name, other in zip(names, names[1:])}
        for back in names:
            book = (2, {**rows, "f": ((0, back),)})
            stem, ring = self.look_at_way(book, "a", (0, 1))
            self.assertEqual(len(ring), 6 - names.index(back))
            self.assertIsNone(way_to(book, "a", (1, 3)))

    def test_all_small_books(self):
        for book in small_books():
            for d in (1, 2, 3, 4, 5, 6, 7, 8, 12, 15):
                points = points_among(book, d)
                for n, name in itertools.product(range(d + 1), book[1]):
                    if math.gcd(n, d) == 1:
                        self.look_at(book, name, (n, d), (n, name) in points)

    def look_at(self, book, name, fraction, right):
        if right:
            self.look_at_way(book, name, fraction)
        else:
            self.assertIsNone(way_to(book, name, fraction), (book, name, fraction))

    def test_books_of_six_names_with_full_rows(self):
        names = ("a", "b", "c", "d", "e", "f")
        for base in range(2, 11):
            pairs = sorted(itertools.product(range(base), names))
            rows = {}
            for at, name in enumerate(names):
                # unlike rows, of five pairs to twelve, hardly alike in what they lead to
                rows[name] = tuple(pair for k, pair in enumerate(pairs) if k * k * (at + 2) % 7 < 3)[at:12]
            book = (base, rows)
            for d in range(1, 14):
                points = points_among(book, d)
                for n, name in itertools.product(range(d + 1), names):
                    if math.gcd(n, d) == 1:
                        self.look_at(book, name, (n, d), (n, name) in points)

    def test_names_with_points_are_the_live_ones(self):
        for book in small_books():
            # of two names, a ring of two pairs, or of one behind a stem of one, is always enough
            fractions = ((0, 1), (1, 1), (1, 2), (1, 3), (2, 3))
            names = [name for name in sorted(book[1]) if any(way_to(book, name, one) for one in fractions)]
            self.assertEqual(live(book), names, book)

    def test_a_thousand_digits(self):
        row = tuple((digit, name) for digit in (0, 1) for name in "abcdef")
        full = (2, {name: row for name in "abcdef"})
        ring = tuple(at * at % 7 % 2 for at in range(999)) + (1,)
        for stem, around in (((), ring), (ring[:500] + (0,), ring[500:]), ((0,) * 999 + (1,), (0,))):
            fraction = fraction_of(2, stem, around)
            self.look_at_way(full, "a", fraction)
        self.assertIsNone(way_to(DUST, "x", fraction_of(4, (1,) * 999, (2,))))
        self.look_at_way(DUST, "x", fraction_of(4, (1,) * 500, (2, 0) + (1,) * 498))

    def test_a_long_ring_that_comes_round_after_six_rounds(self):
        names = "abcdef"
        # a zero stays, a one goes on to the next name: the ring has one one
        rows = {name: ((0, name), (1, other)) for name, other in zip(names, names[1:] + names[:1])}
        fraction = fraction_of(2, (), (0,) * 999 + (1,))
        stem, ring = self.look_at_way((2, rows), "c", fraction)
        self.assertEqual(len(ring), 6000)

    def test_what_is_told_may_be_handed_on(self):
        names = "abcdef"
        rows = {name: ((0, name), (1, other)) for name, other in zip(names, names[1:] + names[:1])}
        ring = tuple((0, "a") for _ in range(1500)) + tuple((1, name) for name in "bcdefa")
        fraction = point_by((2, rows), "a", (), ring)
        self.assertEqual(len(writings_of(2, fraction)[0][1]), 1506)
        self.look_at_way((2, rows), "a", fraction)

    def test_what_is_handed_in_stays(self):
        book = copy.deepcopy(DUST)
        self.look_at_way(book, "x", (8, 15))
        way_to(book, "x", (0, 1))
        self.assertEqual(book, DUST)
        self.assertEqual(list(book[1]), ["x", "y"])

    def test_a_book_that_was_changed_behind_the_call(self):
        book = (2, {"a": ((0, "a"),)})
        self.assertIsNone(way_to(book, "a", (1, 1)))
        book[1]["a"] = ((1, "a"),)
        self.look_at_way(book, "a", (1, 1))
        self.assertIsNone(way_to(book, "a", (0, 1)))


if __name__ == "__main__":
    unittest.main()
