import unittest
from fractions import Fraction

from dustwithin.books import way_to
from dustwithin.fractions import is_fraction
from dustwithin.shares import at_most, is_shared, just_at, mean, spread
from tests.things import anything, fraction_worth, fractions_to, worth

ALL_ALIKE = (3, {"a": ((0, "a", (1, 3)), (1, "a", (1, 3)), (2, "a", (1, 3)))})
# a goes on to b for sure; b comes back to a, or stays
BOTH = (3, {"a": ((1, "b", (1, 1)),), "b": ((0, "a", (1, 2)), (2, "b", (1, 2)))})
# on from a, and on from b, to one point for sure
ONWARD = (10, {
    "a": ((0, "a", (1, 4)), (3, "b", (1, 4)), (5, "z", (1, 2))),
    "b": ((4, "n", (2, 3)), (9, "b", (1, 3))),
    "n": ((9, "n", (1, 1)),),
    "z": ((0, "z", (1, 1)),),
})
# one digit and name by two shares
TWICE = (2, {"a": ((0, "a", (1, 3)), (0, "a", (1, 6)), (1, "a", (1, 2)))})
BOOKS = (ALL_ALIKE, BOTH, ONWARD, TWICE)


def by_all_digits(base):
    return (base, {"a": tuple((digit, "a", (1, base)) for digit in range(base))})


def sure(base, digits, back):
    """The name n0 whose point has for sure these digits, and behind them those from back on again and again."""
    names = ["abcdef"[at] for at in range(len(digits))]
    follows = names[1:] + [names[back]]
    return (base, {name: ((digit, ahead, (1, 1)),) for name, digit, ahead in zip(names, digits, follows)})


def with_row(*row):
    return (3, {"a": row})


class TestIsShared(unittest.TestCase):
    def test_shared_books(self):
        for book in BOOKS + tuple(by_all_digits(base) for base in range(2, 11)):
            self.assertIs(is_shared(book), True)
        self.assertTrue(is_shared(with_row((0, "a", (1, 1)))))
        self.assertTrue(is_shared(with_row((0, "a", (1, 100)), (1, "a", (99, 100)))))
        self.assertTrue(is_shared((10, {name: ((9, "f", (1, 1)),) for name in "abcdef"})))
        self.assertTrue(is_shared((2, {"abcdefgh": ((1, "abcdefgh", (1, 1)),)})))

    def test_anything(self):
        for thing in anything():
            self.assertIs(is_shared(thing), False)
            self.assertIs(is_shared((2, thing)), False)
            self.assertIs(is_shared((thing, {"a": ((0, "a", (1, 1)),)})), type(thing) is int and thing == 7)
            self.assertIs(is_shared((3, {"a": thing})), False)
            self.assertIs(is_shared(with_row(thing)), False)
            for at in range(3):
                triple = [0, "a", (1, 1)]
                triple[at] = thing
                right = at == 0 and type(thing) is int and thing in (0, 1) or at == 1 and thing == "a"
                self.assertIs(is_shared(with_row(tuple(triple))), right, thing)
            for share in ((thing, 1), (1, thing)):
                self.assertIs(is_shared(with_row((0, "a", share))), type(thing) is int and thing == 1)

    def test_base_and_names(self):
        row = ((0, "a", (1, 1)),)
        for base in (-2, 0, 1, 11, True, False, None, "2", (2,), 2 ** 70):
            self.assertFalse(is_shared((base, {"a": row})))
        for names in ("", "abcdefghi", "A", "a1", "a b", "\u00e4", 0, None, ("a",), True):
            self.assertFalse(is_shared((2, {"a": row, names: row})))
        self.assertFalse(is_shared((2, {})))
        self.assertTrue(is_shared((2, {name: row for name in "abcdef"})))
        self.assertFalse(is_shared((2, {name: row for name in "abcdefg"})))
        self.assertFalse(is_shared((2, {"b": row})))
        self.assertFalse(is_shared([2, {"a": row}]))
        self.assertFalse(is_shared((2, {"a": row}, None)))
        self.assertFalse(is_shared((2, (("a", row),))))

    def test_digits(self):
        for digit in (-1, 3, True, False, None, "0", (0,)):
            self.assertFalse(is_shared(with_row((digit, "a", (1, 1)))))
        for digit in range(3):
            self.assertTrue(is_shared(with_row((digit, "a", (1, 1)))))

    def test_shares(self):
        for share in ((0, 1), (2, 1), (3, 2), (2, 2), (-1, 1), (-1, -1), (True, 1), (1, True), (1, 0), [1, 1], (1,),
                      (1, 1, 1), 1, True, None, "1/1"):
            self.assertFalse(is_shared(with_row((0, "a", share))), share)
        rest = ((1, "a", (1, 2)),)
        self.assertTrue(is_shared(with_row((0, "a", (1, 2)), *rest)))
        self.assertFalse(is_shared(with_row((0, "a", (2, 4)), *rest)))
        self.assertFalse(is_shared(with_row((0, "a", (0, 1)), (1, "a", (1, 1)))))
        self.assertFalse(is_shared(with_row((0, "a", (1, 101)), (1, "a", (100, 101)))))
        self.assertFalse(is_shared(with_row((0, "a", (3, 2)), (1, "a", (-1, 2)))))

    def test_rows_come_to_one(self):
        self.assertFalse(is_shared(with_row((0, "a", (1, 2)))))
        self.assertFalse(is_shared(with_row((0, "a", (1, 2)), (1, "a", (1, 3)))))
        self.assertFalse(is_shared(with_row((0, "a", (1, 2)), (1, "a", (2, 3)))))
        self.assertFalse(is_shared(with_row((0, "a", (1, 1)), (1, "a", (1, 1)))))
        self.assertFalse(is_shared(with_row((0, "a", (49, 99)), (1, "a", (1, 2)))))
        self.assertTrue(is_shared(with_row((0, "a", (1, 2)), (1, "a", (1, 3)), (2, "a", (1, 6)))))
        self.assertFalse(is_shared((2, {"a": ((0, "a", (1, 1)),), "b": ((0, "a", (1, 2)),)})))

    def test_how_many_triples(self):
        self.assertFalse(is_shared(with_row()))
        for many in (11, 12, 13):
            row = tuple((digit, name, (1, many)) for digit in range(3) for name in ("a", "b", "c", "d", "e"))[:many]
            book = (3, {name: ((0, "a", (1, 1)),) for name in "bcde"} | {"a": row})
            self.assertIs(is_shared(book), many <= 12)

    def test_rising_each_once(self):
        half = (1, 2)
        self.assertFalse(is_shared(with_row((1, "a", half), (0, "a", half))))
        self.assertFalse(is_shared(with_row((1, "a", half), (1, "a", half))))
        self.assertFalse(is_shared((2, {"a": ((0, "b", half), (0, "a", half)), "b": ((0, "b", (1, 1)),)})))
        # shares as tuples: (1, 3) is less than (1, 6), and that is less than (2, 3)
        self.assertTrue(is_shared(with_row((1, "a", (1, 3)), (1, "a", (2, 3)))))
        self.assertFalse(is_shared(with_row((1, "a", (2, 3)), (1, "a", (1, 3)))))
        self.assertTrue(is_shared(with_row((1, "a", (1, 3)), (1, "a", (1, 6)), (2, "a", (1, 2)))))
        self.assertFalse(is_shared(with_row((1, "a", (1, 6)), (1, "a", (1, 3)), (2, "a", (1, 2)))))
        self.assertFalse(is_shared(with_row((1, "a", (1, 3)), (1, "a", (1, 6)), (1, "a", (1, 2)))))
        self.assertTrue(is_shared(with_row((1, "a", (1, 2)), (1, "a", (1, 3)), (1, "a", (1, 6)))))

    def test_lists_in_place_of_tuples(self):
        self.assertFalse(is_shared((3, {"a": [(0, "a", (1, 1))]})))
        self.assertFalse(is_shared(with_row([0, "a", (1, 1)])))
        self.assertFalse(is_shared(with_row((0, "a", [1, 1]))))
        self.assertFalse(is_shared(with_row((0, "a"))))
        self.assertFalse(is_shared(with_row((0, "a", (1, 1), 0))))


class TestChances(unittest.TestCase):
    def test_all_digits_alike(self):
        for base in range(2, 11):
            book = by_all_digits(base)
            for fraction in fractions_to(13) + [(99, 100), (1, 100), (96, 97)]:
                self.assertEqual(at_most(book, "a", fraction), fraction)
                self.assertEqual(just_at(book, "a", fraction), (0, 1))
            self.assertEqual(mean(book, "a"), (1, 2))
            self.assertEqual(spread(book, "a"), (1, 12))

    def test_a_sure_number(self):
        for base, digits, back, point in (
            (2, (0, 1), 0, (1, 3)), (10, (3,), 0, (1, 3)), (10, (2, 5, 0), 2, (1, 4)), (10, (2, 4, 9), 2, (1, 4)),
            (3, (0,), 0, (0, 1)), (3, (2,), 0, (1, 1)), (2, (1, 0), 1, (1, 2)), (2, (0, 1), 1, (1, 2)),
        ):
            book = sure(base, digits, back)
            self.assertEqual(mean(book, "a"), point)
            self.assertEqual(spread(book, "a"), (0, 1))
            for fraction in fractions_to(9) + [point]:
                self.assertEqual(just_at(book, "a", fraction), (1, 1) if fraction == point else (0, 1))
                expected = (1, 1) if worth(fraction) >= worth(point) else (0, 1)
                self.assertEqual(at_most(book, "a", fraction), expected)

    def test_borders_by_both_writings(self):
        # 1/2 by 1 0 0 .. and by 0 1 1 ..
        book = (2, {
            "a": ((0, "l", (1, 3)), (1, "u", (2, 3))),
            "l": ((0, "z", (1, 4)), (1, "l", (3, 4))), "u": ((0, "z", (1, 5)), (1, "u", (4, 5))),
            "z": ((0, "z", (1, 1)),),
        })
        self.assertTrue(is_shared(book))
        self.assertEqual(just_at(book, "a", (1, 2)), (2, 15))
        self.assertEqual(at_most(book, "a", (1, 2)), fraction_worth(Fraction(1, 3) + Fraction(2, 15)))
        both = (2, {
            "a": ((0, "n", (1, 3)), (1, "z", (2, 3))), "n": ((1, "n", (1, 1)),), "z": ((0, "z", (1, 1)),),
        })
        self.assertEqual(just_at(both, "a", (1, 2)), (1, 1))
        self.assertEqual(at_most(both, "a", (1, 2)), (1, 1))
        self.assertEqual(at_most(both, "a", (49, 99)), (0, 1))
        self.assertEqual((mean(both, "a"), spread(both, "a")), ((1, 2), (0, 1)))

    def test_0_and_1(self):
        for book in BOOKS:
            for name in book[1]:
                self.assertEqual(at_most(book, name, (1, 1)), (1, 1))
                self.assertEqual(at_most(book, name, (0, 1)), just_at(book, name, (0, 1)))
        self.assertEqual(just_at(ONWARD, "z", (0, 1)), (1, 1))
        self.assertEqual(just_at(ONWARD, "n", (1, 1)), (1, 1))
        self.assertEqual(just_at(ONWARD, "a", (0, 1)), (0, 1))

    def test_by_hand(self):
        # 3 4 9 9 .. is 35/100; on the way 0 comes with a quarter each time
        self.assertEqual(just_at(ONWARD, "a", (7, 20)), (1, 6))
        self.assertEqual(just_at(ONWARD, "a", (1, 2)), (1, 2))
        self.assertEqual(just_at(ONWARD, "a", (1, 20)), (1, 8))
        self.assertEqual(just_at(ONWARD, "a", (1, 200)), (1, 32))
        self.assertEqual(just_at(ONWARD, "a", (7, 200)), (1, 24))
        self.assertEqual(just_at(ONWARD, "b", (1, 2)), (2, 3))
        self.assertEqual(just_at(ONWARD, "b", (1, 1)), (0, 1))
        self.assertEqual(at_most(ONWARD, "a", (1, 20)), (1, 4))
        self.assertEqual(at_most(ONWARD, "a", (49, 100)), (1, 2))
        self.assertEqual(at_most(ONWARD, "a", (1, 2)), (1, 1))
        # a = 1 b; b = 0 a or 2 b: a = (1 + b) / 3, b = (a + 2 + b) / 6
        self.assertEqual(mean(BOTH, "a"), (1, 2))
        self.assertEqual(mean(BOTH, "b"), (1, 2))
        self.assertEqual(at_most(BOTH, "b", (1, 3)), (1, 2))
        self.assertEqual(spread(TWICE, "a"), (1, 12))
        self.assertEqual(at_most(TWICE, "a", (2, 7)), (2, 7))

    def test_one_step_at_a_time(self):
        fractions = fractions_to(8) + [(1, 9), (26, 27), (1, 100), (7, 20), (13, 81), (96, 97), (41, 99)]
        for book in BOOKS:
            base, rows = book
            for name, row in rows.items():
                for fraction in fractions:
                    least = likely = Fraction(0)
                    for digit, ahead, share in row:
                        left = worth(fraction) * base - digit
                        if left > 1:
                            least += worth(share)
                        elif left >= 0:
                            least += worth(share) * worth(at_most(book, ahead, fraction_worth(left)))
                            likely += worth(share) * worth(just_at(book, ahead, fraction_worth(left)))
                    self.assertEqual(worth(at_most(book, name, fraction)), least)
                    self.assertEqual(worth(just_at(book, name, fraction)), likely)

    def test_against_what_some_digits_tell(self):
        for book in BOOKS:
            base = book[0]
            size = 7 if base < 10 else 5
            for name in book[1]:
                drawn = {(0, name): Fraction(1)}
                for _ in range(size):
                    further = {}
                    for (left, own), likely in drawn.items():
                        for digit, ahead, share in book[1][own]:
                            key = (left * base + digit, ahead)
                            further[key] = further.get(key, 0) + likely * worth(share)
                    drawn = further
                for fraction in fractions_to(7):
                    top = worth(fraction) * base ** size
                    surely = sum(likely for (left, _), likely in drawn.items() if left + 1 < top)
                    perhaps = sum(likely for (left, _), likely in drawn.items() if left <= top)
                    near = sum(likely for (left, _), likely in drawn.items() if left <= top <= left + 1)
                    self.assertTrue(surely <= worth(at_most(book, name, fraction)) <= perhaps)
                    self.assertTrue(0 <= worth(just_at(book, name, fraction)) <= near)

    def test_only_points_are_likely(self):
        found = 0
        for book in BOOKS:
            ways = (book[0], {
                name: tuple(sorted({(digit, own) for digit, own, _ in row})) for name, row in book[1].items()
            })
            for name in ways[1]:
                for fraction in fractions_to(10) + [(7, 20), (1, 20), (7, 200), (1, 200)]:
                    likely = just_at(book, name, fraction)
                    self.assertTrue(is_fraction(likely) and is_fraction(at_most(book, name, fraction)))
                    if likely != (0, 1):
                        found += 1
                        self.assertIsNotNone(way_to(ways, name, fraction))
        self.assertGreater(found, 5)


class TestMeans(unittest.TestCase):
    def test_one_step_at_a_time(self):
        for book in BOOKS + (by_all_digits(7), sure(10, (1, 2, 3), 1)):
            base, rows = book
            means = {name: worth(mean(book, name)) for name in rows}
            squares = {name: worth(spread(book, name)) + means[name] ** 2 for name in rows}
            for name, row in rows.items():
                self.assertTrue(is_fraction(mean(book, name)) and is_fraction(spread(book, name)))
                total = sum(worth(share) * (digit + means[own]) for digit, own, share in row)
                self.assertEqual(means[name], total / base)
                self.assertEqual(squares[name], sum(
                    worth(share) * (digit * digit + 2 * digit * means[own] + squares[own]) for digit, own, share in row
                ) / base ** 2)

    def test_the_greatest_spread(self):
        book = (10, {"a": ((0, "z", (1, 2)), (9, "n", (1, 2))), "n": ((9, "n", (1, 1)),), "z": ((0, "z", (1, 1)),)})
        self.assertEqual((mean(book, "a"), spread(book, "a")), ((1, 2), (1, 4)))
        self.assertEqual(at_most(book, "a", (0, 1)), (1, 2))
        self.assertEqual(just_at(book, "a", (1, 1)), (1, 2))

    def test_six_names_of_twelve_triples(self):
        bottoms = (97, 89, 83, 79, 73, 71)
        names = "abcdef"
        rows = {}
        for at, (name, bottom) in enumerate(zip(names, bottoms)):
            parts = [1] * 11 + [bottom - 11]
            rows[name] = tuple(sorted((place % 10, names[(at + place) % 6], (part, bottom))
                                      for place, part in enumerate(parts)))
        book = (10, rows)
        self.assertTrue(is_shared(book))
        for fraction in ((96, 97), (1, 97), (50, 59), (1, 2), (1, 100)):
            ends = [worth(at_most(book, "a", one)) for one in ((0, 1), fraction, (1, 1))]
            self.assertEqual(ends, sorted(ends))
            self.assertEqual(just_at(book, "a", fraction)[0] > 0, False)
        self.assertEqual(worth(mean(book, "a")), sum(
            worth(share) * (digit + worth(mean(book, own))) for digit, own, share in rows["a"]) / 10)


if __name__ == "__main__":
    unittest.main()
