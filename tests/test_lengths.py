import itertools
import unittest

from dustwithin.errors import TooMany
from dustwithin.gaps import Gaps
from dustwithin.joins import joined, met, put, stretch, turned
from dustwithin.lengths import cells_at, full_at, length
from dustwithin.points import greatest, least
from dustwithin.sets import cell_at, set_of
from tests.things import (
    DUST, HALVES, alone, circle, empty, fraction_worth, fractions_to, lone_circle, several, some_sets, whole, worth,
)

BASES = range(2, 11)


def told(base, **rows):
    """The set of the name a, its rows told by a digit and a name each."""
    return set_of((base, {name: tuple((int(pair[0]), pair[1]) for pair in row.split()) for name, row in rows.items()}),
                  "a")


def lead_to_whole(size, ring_digit=1, full_digit=3):
    """The set to base 4 of so many cells that lead round, the first one to all from 0 to 1, too."""
    names = ["r" + "abcdefghij"[at // 100] + "abcdefghij"[at // 10 % 10] + "abcdefghij"[at % 10] for at in range(size)]
    rows = {name: ((ring_digit, names[(at + 1) % size]),) for at, name in enumerate(names)}
    rows[names[0]] = tuple(sorted([(ring_digit, names[1 % size]), (full_digit, "f")]))
    rows["f"] = tuple((digit, "f") for digit in range(4))
    return set_of((4, rows), names[0])


class TestLength(unittest.TestCase):
    def test_none_without_a_stretch(self):
        for base in BASES:
            self.assertEqual(length(empty(base)), (0, 1))
            for fraction in fractions_to(5):
                self.assertEqual(length(alone(base, fraction)), (0, 1))
            self.assertEqual(length(several(base, [(0, 1), (1, 3), (1, 2), (1, 1)])), (0, 1))
        self.assertEqual(length(set_of(DUST, "x")), (0, 1))
        self.assertEqual(length(set_of(HALVES, "u")), (0, 1))
        self.assertEqual(length(told(3, a="0a 2a")), (0, 1))

    def test_all_from_0_to_1(self):
        for base in BASES:
            self.assertEqual(length(whole(base)), (1, 1))
        self.assertEqual(length(told(2, a="0a 0b 1b", b="0a 0b 1a 1b")), (1, 1))

    def test_stretches_between_fractions(self):
        for base in (2, 3, 4, 10):
            for low, high in itertools.combinations(sorted(fractions_to(8), key=lambda one: worth(one)), 2):
                value = stretch(base, low, high)
                self.assertEqual(length(value), fraction_worth(worth(high) - worth(low)), (base, low, high))
            self.assertEqual(length(stretch(base, (1, 3), (1, 3))), (0, 1))

    def test_stretches_with_dust_and_points_beside(self):
        dust = set_of(DUST, "x")
        part = stretch(4, (1, 3), (3, 7))
        self.assertEqual(length(joined(part, dust)), (2, 21))
        self.assertEqual(length(joined(part, several(4, [(0, 1), (2, 5), (1, 1)]))), (2, 21))
        self.assertEqual(length(met(part, dust)), (0, 1))
        self.assertEqual(length(joined(part, stretch(4, (2, 5), (1, 2)))), (1, 6))
        self.assertEqual(length(turned(joined(part, dust))), (2, 21))

    def test_lengths_that_are_no_finite_sum(self):
        # x = x / 3 + 1 / 3
        self.assertEqual(length(told(3, a="0a 2f", f="0f 1f 2f")), (1, 2))
        # x = x / 4 + 1 / 4
        self.assertEqual(length(told(4, a="1a 3f", f="0f 1f 2f 3f")), (1, 3))
        # x = y / 3 + 1 / 3, y = x / 3
        self.assertEqual(length(told(3, a="0b 2f", b="2a", f="0f 1f 2f")), (3, 8))
        # x = (x + 2 y) / 10, y = (x + y + 3) / 10
        self.assertEqual(length(told(10, a="1a 3b 5b", b="1a 3b 5f 6f 7f", f="0f 1f 2f 3f 4f 5f 6f 7f 8f 9f")), (6, 79))
        # two rings, one behind the other: y = y / 2 + 0, 1 / 4 .. is told by z = z / 4 + 1 / 4
        self.assertEqual(length(told(4, a="0a 2b", b="1b 3f", f="0f 1f 2f 3f")), (1, 9))

    def test_a_set_is_as_long_as_its_cells_are(self):
        for value in some_sets(80) + some_sets(40, bases=(2, 3), most_pairs=8):
            base = value[0]
            cells = sum(worth(length(cell_at(value, (digit,)))) for digit in range(base))
            self.assertEqual(base * worth(length(value)), cells)
            self.assertLessEqual(worth(length(value)), worth((cells_at(value, 8), base ** 8)))

    def test_what_gaps_leave(self):
        found = 0
        for value in some_sets(60) + [stretch(4, (1, 7), (5, 9)), several(3, [(1, 2), (2, 7), (1, 1)])]:
            gaps = Gaps(value)
            while len(gaps.told()) < 50 and gaps.more() is not None:
                pass
            if value[1] and len(gaps.told()) < 50:
                found += 1
                left = worth(greatest(value)) - worth(least(value))
                left -= sum(worth(high) - worth(low) for low, high in gaps.told())
                self.assertEqual(worth(length(value)), left)
        self.assertGreater(found, 5)

    def test_sixty_cells_are_told_and_sixty_one_refused(self):
        for size in (1, 2, 7, 59, 60):
            # x = x / 4 ** size + 1 / 4
            expected = fraction_worth(worth((4 ** (size - 1), 4 ** size - 1)))
            self.assertEqual(length(lead_to_whole(size)), expected)
        for size in (61, 62, 150):
            with self.assertRaises(TooMany) as caught:
                length(lead_to_whole(size))
            self.assertEqual(caught.exception.most, 60)

    def test_refused_wherever_the_cells_stand(self):
        far = put(4, (whole(4), alone(4, (1, 3)), lead_to_whole(61), whole(4)))
        for value in (far, turned(far), joined(far, alone(4, (1, 5)))):
            with self.assertRaises(TooMany) as caught:
                length(value)
            self.assertEqual(caught.exception.most, 60)
        # 61 cells that lead to all from 0 to 1 by another ring alone
        size = 61
        rows = [(None, (at + 1) % size, 61 if at == 0 else None, None) for at in range(size)]
        rows += [(None, 61, None, 62), (62, 62, 62, 62)]
        names = ["abcdefghij"[at // 10] + "abcdefghij"[at % 10] for at in range(63)]
        book = (4, {
            name: tuple((digit, names[number]) for digit, number in enumerate(row) if number is not None)
            for name, row in zip(names, rows)
        })
        with self.assertRaises(TooMany):
            length(set_of(book, names[0]))
        self.assertEqual(length(set_of(book, names[61])), (1, 3))

    def test_greater_rings_that_come_to_no_full_cell_are_told(self):
        for size in (61, 150):
            ring, point = lone_circle(10, size)
            self.assertEqual(length(ring), (0, 1))
            self.assertEqual(length(circle(10, size, (1, 3), (5,))), (0, 1))
            self.assertEqual(length(joined(ring, stretch(10, (0, 1), (1, 20)))), (1, 20))
            beside = put(10, (whole(10), empty(10), circle(10, size, (1, 3), (5,))) + (empty(10),) * 7)
            self.assertEqual(length(beside), (1, 10))

    def test_several_rings_of_at_most_sixty_are_told(self):
        ring = lead_to_whole(60)
        other = lead_to_whole(59)
        both = worth(length(ring)) / 4 + worth(length(other)) / 4
        self.assertEqual(length(put(4, (ring, empty(4), other, empty(4)))), fraction_worth(both))
        # a ring of sixty behind a ring of sixty
        names = [one + two for one in "abcdefgh" for two in "abcdefghijklmno"][:120]
        rows = {name: ((1, names[at + 1 if at % 60 < 59 else at - 59]),) for at, name in enumerate(names)}
        rows[names[0]] += ((3, names[60]),)
        rows[names[60]] += ((3, "f"),)
        rows["f"] = tuple((digit, "f") for digit in range(4))
        expected = worth(length(ring)) ** 2
        self.assertEqual(length(set_of((4, rows), names[0])), fraction_worth(expected))

    def test_sixty_cells_that_lead_to_many(self):
        # x_k = (x_(k + 1) + x_(7 k) + 1) / 10, the same for all but for the last one's further 1
        size = 60
        names = ["abcdef"[at // 10] + "abcdefghij"[at % 10] for at in range(size)]
        rows = {
            name: ((1, names[(at + 1) % size]), (3, names[7 * at % size]), (5, "f"))
            for at, name in enumerate(names)
        }
        rows[names[-1]] += ((7, "f"),)
        rows["f"] = tuple((digit, "f") for digit in range(10))
        lengths = {name: worth(length(set_of((10, rows), name))) for name in names + ["f"]}
        for name, row in rows.items():
            self.assertEqual(10 * lengths[name], sum(lengths[ahead] for _, ahead in row))


class TestCellsAt(unittest.TestCase):
    def test_of_the_empty_set_and_all(self):
        for base in BASES:
            for depth in (0, 1, 2, 399, 400):
                self.assertEqual(cells_at(empty(base), depth), 0)
                self.assertEqual(cells_at(whole(base), depth), base ** depth)

    def test_of_one_point(self):
        for depth in (0, 1, 2, 3, 400):
            self.assertEqual(cells_at(alone(2, (1, 3)), depth), 1)
            self.assertEqual(cells_at(alone(10, (0, 1)), depth), 1)
            self.assertEqual(cells_at(alone(10, (1, 1)), depth), 1)
            self.assertEqual(cells_at(alone(2, (1, 2)), depth), 1 if depth == 0 else 2)
            self.assertEqual(cells_at(alone(10, (3, 100)), depth), 1 if depth < 2 else 2)

    def test_of_dust(self):
        self.assertEqual([cells_at(set_of(DUST, "x"), depth) for depth in range(9)], [1, 2, 3, 5, 8, 13, 21, 34, 55])
        self.assertEqual([cells_at(set_of(DUST, "y"), depth) for depth in range(9)], [1, 1, 2, 3, 5, 8, 13, 21, 34])
        # 1/3 and 2/3, ends of both thirds beside, are in the middle one, too
        self.assertEqual(cells_at(told(3, a="0a 2a"), 400), 5 * 2 ** 399 - 2)
        self.assertEqual(cells_at(told(4, a="1a 2a"), 400), 2 ** 400)
        ahead, here = 1, 2
        for _ in range(399):
            ahead, here = here, ahead + here
        self.assertEqual(cells_at(set_of(DUST, "x"), 400), here)

    def test_of_points_that_come_together(self):
        # 0, 1/2, 1/4 ..: those that aren't less than a cell is long are each between two
        self.assertEqual([cells_at(set_of(HALVES, "u"), depth) for depth in range(6)], [1, 2, 3, 5, 7, 9])

    def test_all_rows_of_digits_are_counted(self):
        for value in some_sets(40, bases=(2, 3, 4)):
            for depth in range(5):
                rows = itertools.product(range(value[0]), repeat=depth)
                many = sum(1 for digits in rows if cell_at(value, digits)[1])
                self.assertEqual(cells_at(value, depth), many)


class TestFullAt(unittest.TestCase):
    def test_by_hand(self):
        for base in BASES:
            self.assertEqual(full_at(whole(base)), ())
            self.assertIsNone(full_at(empty(base)))
            self.assertIsNone(full_at(alone(base, (1, 2))))
        self.assertIsNone(full_at(set_of(DUST, "x")))
        self.assertEqual(full_at(stretch(10, (1, 4), (3, 4))), (3,))
        self.assertEqual(full_at(stretch(10, (0, 1), (1, 1000))), (0, 0, 0))
        self.assertEqual(full_at(stretch(2, (1, 3), (2, 3))), (0, 1, 1))
        self.assertIsNone(full_at(stretch(2, (1, 3), (1, 3))))

    def test_shorter_ones_first_and_of_like_ones_the_first(self):
        # 00 and 1; 01 and 10
        self.assertEqual(full_at(told(2, a="0b 1f", b="0f", f="0f 1f")), (1,))
        self.assertEqual(full_at(told(3, a="0b 1c", b="1f", c="0f", f="0f 1f 2f")), (0, 1))
        self.assertEqual(full_at(told(3, a="0b 1c 2d", b="1e", c="2f", d="0f", e="1f", f="0f 1f 2f")), (1, 2))
        self.assertEqual(full_at(lead_to_whole(150)), (3,))
        self.assertEqual(full_at(lead_to_whole(80, ring_digit=1, full_digit=0)), (0,))

    def test_no_row_ahead_of_the_told_one(self):
        found = 0
        for value in some_sets(80, bases=(2, 3), most_pairs=8):
            base = value[0]
            rows = [digits for size in range(6) for digits in itertools.product(range(base), repeat=size)]
            full = [digits for digits in rows if cell_at(value, digits) == whole(base)]
            digits = full_at(value)
            if full:
                found += 1
                self.assertEqual(digits, full[0])
            elif digits is not None:
                self.assertGreater(len(digits), 5)
                self.assertEqual(cell_at(value, digits), whole(base))
            self.assertEqual(digits is None, length(value) == (0, 1))
        self.assertGreater(found, 5)

    def test_is_a_tuple_of_digits(self):
        for value in (whole(3), stretch(10, (1, 4), (3, 4))):
            self.assertIs(type(full_at(value)), tuple)


if __name__ == "__main__":
    unittest.main()
