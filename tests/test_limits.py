import unittest

from dustwithin.gaps import how_many_gaps
from dustwithin.joins import is_part, joined, put, stretch, turned
from dustwithin.lengths import cells_at
from dustwithin.limits import how_many, is_single, kernel, limits, rank, single_of
from dustwithin.points import is_in
from dustwithin.sets import cell_at, set_of
from dustwithin.fractions import writings_of
from tests.things import DUST, HALVES, alone, empty, fractions_to, several, some_books, some_sets, whole

HALVING = set_of(HALVES, "u")


def chain(base, size):
    """The set of the last of so many names, each of which goes on by 0, or leads to the one ahead by 1."""
    names = ["n" + chr(97 + at // 26) + chr(97 + at % 26) for at in range(size)]
    rows = {name: ((0, name),) + (((1, names[at - 1]),) if at else ()) for at, name in enumerate(names)}
    return set_of((base, rows), names[-1])


def has_endless_points(value):
    """Whether cells grow ever more: by as many digits as there are rows, ways come to where they go round."""
    many = len(value[1])
    return cells_at(value, 3 * many + 2) > cells_at(value, many)


def is_limit(value, fraction):
    """Whether along a writing of a fraction every cell has endlessly many points."""
    for stem, ring in writings_of(value[0], fraction):
        digits = stem + ring * (len(value[1]) + 1)
        if has_endless_points(cell_at(value, digits)):
            return True
    return False


class TestLimits(unittest.TestCase):
    def test_none_and_all(self):
        for base in range(2, 11):
            for value in (empty(base), whole(base), stretch(base, (1, 3), (2, 3)), stretch(base, (0, 1), (1, 2))):
                self.assertEqual(limits(value), value)
                self.assertEqual(kernel(value), value)
                self.assertEqual(rank(value), 0)

    def test_points(self):
        for base in range(2, 11):
            for value in (alone(base, (1, 2)), alone(base, (0, 1)), several(base, fractions_to(4))):
                self.assertEqual(limits(value), empty(base))
                self.assertEqual(kernel(value), empty(base))
                self.assertEqual(rank(value), 1)

    def test_halves(self):
        self.assertEqual(limits(HALVING), alone(2, (0, 1)))
        self.assertEqual(kernel(HALVING), empty(2))
        self.assertEqual(rank(HALVING), 2)
        self.assertEqual(limits(turned(HALVING)), alone(2, (1, 1)))

    def test_chains_of_names(self):
        three = set_of((2, {"u": ((0, "u"), (1, "v")), "v": ((0, "v"), (1, "w")), "w": ((0, "w"),)}), "u")
        self.assertEqual(rank(three), 3)
        self.assertEqual(limits(three), HALVING)
        for base in (2, 3, 10):
            for size in range(2, 9):
                self.assertEqual(limits(chain(base, size)), chain(base, size - 1))
                self.assertEqual(rank(chain(base, size)), size)
                self.assertEqual(kernel(chain(base, size)), empty(base))
        self.assertEqual(rank(chain(2, 98)), 98)

    def test_dust(self):
        dust = set_of(DUST, "x")
        self.assertEqual((limits(dust), kernel(dust), rank(dust)), (dust, dust, 0))
        points = [(0, 1), (2, 5), (1, 2), (1, 1)]
        beside = joined(dust, several(4, points))
        self.assertEqual((limits(beside), kernel(beside), rank(beside)), (dust, dust, 1))
        for point in points:
            self.assertFalse(is_in(dust, point))
            self.assertTrue(is_single(beside, point))
        self.assertFalse(is_single(beside, (1, 3)))
        self.assertIn(single_of(beside), points)

    def test_dust_with_points_that_come_to_it(self):
        # from 1 / 16 of the way: dust in the last quarter, points at 1/2, 1/8, 1/32 ..
        book = (4, {"a": ((0, "a"), (2, "z"), (3, "x")), "z": ((0, "z"),), "x": ((1, "x"), (2, "x"))})
        value = set_of(book, "a")
        dust = set_of((4, {"a": ((0, "a"), (3, "x")), "x": ((1, "x"), (2, "x"))}), "a")
        self.assertEqual(limits(value), dust)
        self.assertEqual(rank(value), 1)
        self.assertTrue(is_single(value, (1, 2)) and is_single(value, (1, 32)))
        self.assertFalse(is_single(value, (0, 1)))
        # points alone come to 0: it is single in the limits
        book = (4, {"a": ((0, "a"), (2, "z")), "b": ((1, "a"), (3, "x")), "z": ((0, "z"),), "x": ((1, "x"), (2, "x"))})
        value = set_of(book, "b")
        self.assertEqual(rank(value), 2)
        self.assertEqual(limits(limits(value)), kernel(value))
        self.assertTrue(is_single(limits(value), (1, 4)))
        self.assertEqual(kernel(value), set_of((4, {"b": ((3, "x"),), "x": ((1, "x"), (2, "x"))}), "b"))

    def test_borders_from_one_side_alone(self):
        from_above = put(2, (several(2, [(1, 2)]), HALVING))
        self.assertEqual(limits(from_above), alone(2, (1, 2)))
        from_below = put(2, (turned(HALVING), several(2, [(1, 2)])))
        self.assertEqual(limits(from_below), alone(2, (1, 2)))
        from_both = put(2, (turned(HALVING), HALVING))
        self.assertEqual(limits(from_both), alone(2, (1, 2)))
        for value in (from_above, from_below, from_both):
            self.assertFalse(is_single(value, (1, 2)))
            self.assertEqual(rank(value), 2)
        # at one border they come from above, at the other from below
        value = put(4, (empty(4), chain(4, 3), turned(chain(4, 2)), alone(4, (1, 2))))
        self.assertEqual(limits(value), put(4, (empty(4), chain(4, 2), alone(4, (1, 1)), empty(4))))
        self.assertEqual(limits(limits(value)), alone(4, (1, 4)))
        self.assertEqual(rank(value), 3)

    def test_just_the_points_with_endless_cells_along_a_writing(self):
        unlike = 0
        for value in some_sets(60, bases=(2, 3, 4)) + [put(2, (turned(HALVING), HALVING)), set_of(DUST, "y")]:
            told = limits(value)
            self.assertTrue(is_part(told, value))
            unlike += told != value
            for fraction in fractions_to(7) + [(9, 16), (7, 27), (8, 27), (63, 64)]:
                self.assertEqual(is_in(told, fraction), is_limit(value, fraction), (value, fraction))
                single = is_in(value, fraction) and not is_limit(value, fraction)
                self.assertIs(is_single(value, fraction), single)
        self.assertGreater(unlike, 5)

    def test_kernel_and_rank_are_limits_again_and_again(self):
        for value in some_sets(60) + [put(2, (HALVING, chain(2, 4)))]:
            here = value
            for _ in range(rank(value)):
                self.assertNotEqual(limits(here), here)
                here = limits(here)
            self.assertEqual(limits(here), here)
            self.assertEqual(kernel(value), here)


class TestHowMany(unittest.TestCase):
    def test_by_hand(self):
        for base in range(2, 11):
            self.assertEqual(how_many(empty(base)), 0)
            self.assertIsNone(how_many(whole(base)))
            self.assertIsNone(how_many(stretch(base, (1, 3), (1, 2))))
            self.assertEqual(how_many(stretch(base, (1, 3), (1, 3))), 1)
            for size in (1, 2, 5, 9):
                self.assertEqual(how_many(several(base, fractions_to(size))), len(fractions_to(size)))
        self.assertIsNone(how_many(set_of(DUST, "x")))
        self.assertIsNone(how_many(HALVING))

    def test_a_point_with_two_writings_counts_once(self):
        for base in range(2, 11):
            for fraction in ((1, base), (1, base ** 3), (base - 1, base)):
                self.assertEqual(how_many(alone(base, fraction)), 1)
        # both writings of 1/2 are told
        self.assertEqual(how_many(set_of((2, {"a": ((0, "b"), (1, "c")), "b": ((1, "b"),), "c": ((0, "c"),)}), "a")), 1)

    def test_many_figures(self):
        names = ["n" + chr(97 + at // 26) + chr(97 + at % 26) for at in range(190)] + ["z"]
        for base, last in ((10, 0), (2, 0), (10, 3)):
            rows = {name: tuple((digit, ahead) for digit in range(base)) for name, ahead in zip(names, names[1:])}
            rows["z"] = ((last, "z"),)
            self.assertEqual(how_many(set_of((base, rows), names[0])), base ** 190)

    def test_one_more_than_gaps_or_endless(self):
        counts = []
        for value in some_sets(80, most_pairs=2) + some_sets(40):
            many = how_many(value)
            if has_endless_points(value):
                self.assertIsNone(many)
            elif value[1]:
                counts.append(many)
                self.assertEqual(many, how_many_gaps(value) + 1)
            else:
                self.assertEqual(many, 0)
            self.assertEqual(many is not None, limits(value) == empty(value[0]))
        self.assertGreater(len(counts), 10)


class TestSingles(unittest.TestCase):
    def test_is_single(self):
        self.assertIs(is_single(HALVING, (1, 2)), True)
        self.assertIs(is_single(HALVING, (1, 1024)), True)
        self.assertIs(is_single(HALVING, (0, 1)), False)
        self.assertIs(is_single(HALVING, (1, 3)), False)
        self.assertIs(is_single(HALVING, (1, 1)), False)
        self.assertIs(is_single(empty(2), (1, 2)), False)
        for fraction in fractions_to(5):
            self.assertIs(is_single(whole(10), fraction), False)
            self.assertIs(is_single(alone(10, fraction), fraction), True)
        part = joined(stretch(10, (1, 4), (1, 2)), alone(10, (1, 5)))
        self.assertEqual([is_single(part, one) for one in ((1, 5), (1, 4), (1, 3), (1, 2), (3, 5))],
                         [True, False, False, False, False])

    def test_single_of(self):
        for base in range(2, 11):
            for value in (empty(base), whole(base), stretch(base, (1, 3), (1, 2))):
                self.assertIsNone(single_of(value))
            self.assertEqual(single_of(alone(base, (2, 5))), (2, 5))
            self.assertIn(single_of(several(base, fractions_to(3))), fractions_to(3))
        self.assertIsNone(single_of(set_of(DUST, "x")))
        self.assertTrue(is_single(HALVING, single_of(HALVING)))

    def test_single_of_is_one_wherever_there_is_one(self):
        found = 0
        for book, name in some_books(120):
            value = set_of(book, name)
            point = single_of(value)
            if point is None:
                self.assertEqual(limits(value), value)
            else:
                found += 1
                self.assertTrue(is_single(value, point))
        self.assertGreater(found, 10)


if __name__ == "__main__":
    unittest.main()
