import unittest

from dustwithin.errors import TooMany
from dustwithin.gaps import Gaps, how_many_gaps, longer
from dustwithin.joins import joined, put, stretch, turned
from dustwithin.points import greatest, is_in, least, over, under
from dustwithin.sets import set_of
from tests.things import (
    DUST, HALVES, alone, empty, fraction_worth, fractions_to, several, some_sets, whole, worth,
)


def first_gaps(value, many):
    teller = Gaps(value)
    return [teller.more() for _ in range(many)]


def all_longer(value, least_length):
    """All gaps longer than so much, in order, by the ends of all cells that are shorter than that."""
    base, rows = value
    size = 0
    while base ** size * least_length < 1:
        size += 1
    cells = [(0, 0)] if rows else []
    for _ in range(size):
        cells = [
            (left * base + digit, number)
            for left, at in cells for digit, number in enumerate(rows[at]) if number is not None
        ]
    ends = []
    for left, at in cells:
        numbers = {at: 0}
        for number in numbers_from(rows, at):
            numbers.setdefault(number, len(numbers))
        own = (base, tuple(
            tuple(None if number is None else numbers[number] for number in rows[other]) for other in numbers
        ))
        ends.append(tuple((left + worth(end(own))) / base ** size for end in (least, greatest)))
    found = {(one[1], other[0]) for one, other in zip(ends, ends[1:]) if one[1] < other[0]}
    return in_order([gap for gap in found if gap[1] - gap[0] > least_length])


def numbers_from(rows, at):
    found = [at]
    for number in found:
        found += [ahead for ahead in dict.fromkeys(rows[number]) if ahead is not None and ahead not in found]
    return found


def in_order(gaps):
    return sorted(gaps, key=lambda gap: (gap[0] - gap[1], gap[0]))


def worths(gaps):
    return [(worth(low), worth(high)) for low, high in gaps]


def thousandths(*more):
    """0, 1/1000, .., 999/1000, and more."""
    rows = {name: tuple((digit, ahead) for digit in range(10)) for name, ahead in zip("abc", "bcz")}
    rows["z"] = ((0, "z"),)
    return joined(set_of((10, rows), "a"), several(10, more))


def dust_in_small_parts(depth):
    """Dust in each of 10 ** depth parts of all from 0 to 1, with the parts' ends."""
    names = ["n" + chr(97 + at // 26) + chr(97 + at % 26) for at in range(depth)] + ["dust"]
    rows = {name: tuple((digit, ahead) for digit in range(10)) for name, ahead in zip(names, names[1:])}
    rows["dust"] = ((0, "dust"), (9, "dust"))
    return set_of((10, rows), names[0])


class TestMore(unittest.TestCase):
    def test_sets_without_gaps(self):
        for base in range(2, 11):
            for value in (empty(base), whole(base), alone(base, (1, 2)), alone(base, (0, 1)),
                          stretch(base, (1, 3), (3, 4))):
                teller = Gaps(value)
                for _ in range(3):
                    self.assertIsNone(teller.more())
                self.assertEqual(teller.told(), [])

    def test_the_longest_first_of_like_ones_the_least(self):
        dust = first_gaps(set_of(DUST, "x"), 3)
        self.assertEqual(dust[0], ((23, 60), (25, 48)))
        thirds = first_gaps(set_of((3, {"a": ((0, "a"), (2, "a"))}), "a"), 7)
        self.assertEqual(thirds, [
            ((1, 3), (2, 3)), ((1, 9), (2, 9)), ((7, 9), (8, 9)), ((1, 27), (2, 27)), ((7, 27), (8, 27)),
            ((19, 27), (20, 27)), ((25, 27), (26, 27)),
        ])
        points = several(10, [(0, 1), (1, 10), (1, 5), (1, 3), (2, 5), (3, 5), (4, 5), (1, 1)])
        self.assertEqual(first_gaps(points, 9), [
            ((2, 5), (3, 5)), ((3, 5), (4, 5)), ((4, 5), (1, 1)), ((1, 5), (1, 3)), ((0, 1), (1, 10)),
            ((1, 10), (1, 5)), ((1, 3), (2, 5)), None, None,
        ])

    def test_like_lengths_at_unlike_depths(self):
        # between quarters, within quarters, across a border
        points = several(4, [(0, 1), (1, 16), (1, 4), (7, 16), (1, 2), (11, 16), (7, 8), (1, 1)])
        self.assertEqual(first_gaps(points, 8), [
            ((1, 16), (1, 4)), ((1, 4), (7, 16)), ((1, 2), (11, 16)), ((11, 16), (7, 8)), ((7, 8), (1, 1)),
            ((0, 1), (1, 16)), ((7, 16), (1, 2)), None,
        ])

    def test_gaps_without_end(self):
        teller = Gaps(set_of(HALVES, "u"))
        for at in range(200):
            self.assertEqual(teller.more(), ((1, 2 ** (at + 2)), (1, 2 ** (at + 1))))
        self.assertEqual(len(teller.told()), 200)
        teller = Gaps(turned(set_of(HALVES, "u")))
        self.assertEqual([teller.more() for _ in range(3)], [
            ((1, 2), (3, 4)), ((3, 4), (7, 8)), ((7, 8), (15, 16)),
        ])

    def test_none_when_all_were_told_and_from_then_on(self):
        teller = Gaps(several(2, [(1, 3), (1, 2), (2, 3)]))
        self.assertEqual([teller.more() for _ in range(5)], [((1, 3), (1, 2)), ((1, 2), (2, 3)), None, None, None])
        self.assertEqual(teller.told(), [((1, 3), (1, 2)), ((1, 2), (2, 3))])
        self.assertIsNone(teller.more())

    def test_none_left_out_and_none_twice(self):
        for value in some_sets(60) + [set_of(DUST, "x"), joined(set_of(DUST, "x"), stretch(4, (1, 7), (2, 5)))]:
            expected = all_longer(value, worth((1, 50)))
            self.assertEqual(worths(longer(value, (1, 50))), expected, value)
            told = [gap for gap in first_gaps(value, len(expected) + 1)]
            self.assertEqual(worths(told[:-1]), expected)
            if told[-1] is not None:
                (low, high), = worths(told[-1:])
                self.assertLessEqual(high - low, worth((1, 50)))

    def test_a_hundred_gaps_and_more_of_one_set(self):
        for value in some_sets(30) + [set_of(DUST, "x")]:
            told = [gap for gap in first_gaps(value, 150) if gap is not None]
            self.assertEqual(len(set(told)), len(told))
            self.assertEqual(worths(told), in_order(worths(told)))
            for low, high in told:
                middle = fraction_worth((worth(low) + worth(high)) / 2)
                self.assertTrue(is_in(value, low) and is_in(value, high))
                self.assertEqual((under(value, middle), over(value, middle)), (low, high))
        dust = set_of(DUST, "x")
        expected = all_longer(dust, worth((1, 10 ** 7)))
        self.assertGreater(len(expected), 100)
        self.assertEqual(worths(first_gaps(dust, len(expected))), expected)

    def test_like_gaps_beyond_number(self):
        # 10 ** 150 gaps of one length: the least first
        teller = Gaps(dust_in_small_parts(150))
        part = 10 ** 150
        for at in range(25):
            self.assertEqual(worths([teller.more()]), worths([
                ((10 * at + 1, part * 10), (10 * at + 9, part * 10)),
            ]))

    def test_lengths_that_are_nearly_one(self):
        # 1/7 and 1/7 less a very small part, and the other way round
        small = worth((1, 10 ** 40 - 1))
        for first, second in ((worth((1, 7)) - small, worth((1, 7))), (worth((1, 7)), worth((1, 7)) - small)):
            ends = [worth((1, 5)), worth((1, 5)) + first, worth((3, 5)), worth((3, 5)) + second]
            value = several(10, [fraction_worth(end) for end in ends])
            expected = in_order(zip(ends, ends[1:]))
            self.assertEqual(worths(first_gaps(value, 3)), expected)

    def test_neighbouring_lengths(self):
        # 332/997 is greater than 663/1991 by one part of both lower numbers multiplied
        one, other = several(10, [(0, 1), (332, 997)]), several(10, [(0, 1), (663, 1991)])
        nothing = (empty(10),) * 4
        for cells, greater in (((one, *nothing, other, *nothing), 0), ((other, *nothing, one, *nothing), 5)):
            told = worths(first_gaps(put(10, cells), 4)[1:3])
            low = worth((greater, 10))
            self.assertEqual(told[0], (low, low + worth((332, 9970))))
            self.assertEqual(told[1], (worth((5, 10)) - low, worth((5, 10)) - low + worth((663, 19910))))

    def test_single_digits_far_down(self):
        value = several(10, [(1, 3), fraction_worth(worth((1, 3)) + worth((1, 10 ** 90))), (1, 2)])
        self.assertEqual(worths(first_gaps(value, 2))[1], (worth((1, 3)), worth((1, 3)) + worth((1, 10 ** 90))))


class TestTellers(unittest.TestCase):
    def test_two_tellers_go_by_themselves(self):
        value = set_of(DUST, "x")
        one, other = Gaps(value), Gaps(value)
        expected = first_gaps(value, 6)
        told = [one.more() for _ in range(4)]
        self.assertEqual(other.told(), [])
        self.assertEqual([other.more() for _ in range(6)], expected)
        self.assertEqual(told + [one.more(), one.more()], expected)
        self.assertEqual(one.told(), other.told())

    def test_told_is_a_new_list_each_time(self):
        teller = Gaps(set_of(DUST, "x"))
        self.assertEqual(teller.told(), [])
        first = teller.told()
        first.append("something")
        gaps = [teller.more(), teller.more()]
        told = teller.told()
        self.assertEqual(told, gaps)
        told.reverse()
        told.pop()
        self.assertEqual(teller.told(), gaps)
        self.assertIsNot(teller.told(), teller.told())
        self.assertEqual(teller.more(), first_gaps(set_of(DUST, "x"), 3)[2])
        self.assertEqual(len(teller.told()), 3)

    def test_gaps_are_pairs_of_fractions(self):
        gap = Gaps(set_of(DUST, "x")).more()
        self.assertIs(type(gap), tuple)
        for fraction in gap:
            self.assertIs(type(fraction), tuple)


class TestHowMany(unittest.TestCase):
    def test_by_hand(self):
        for base in range(2, 11):
            self.assertEqual(how_many_gaps(empty(base)), 0)
            self.assertEqual(how_many_gaps(whole(base)), 0)
            self.assertEqual(how_many_gaps(alone(base, (1, 2))), 0)
            self.assertEqual(how_many_gaps(several(base, [(0, 1), (1, 2), (1, 1)])), 2)
            self.assertEqual(how_many_gaps(joined(stretch(base, (0, 1), (1, 3)), stretch(base, (1, 2), (1, 1)))), 1)
            self.assertEqual(how_many_gaps(joined(stretch(base, (0, 1), (1, 2)), stretch(base, (1, 2), (1, 1)))), 0)
        self.assertIsNone(how_many_gaps(set_of(DUST, "x")))
        self.assertIsNone(how_many_gaps(set_of(HALVES, "u")))
        self.assertEqual(how_many_gaps(several(10, fractions_to(12))), len(fractions_to(12)) - 1)

    def test_many(self):
        self.assertEqual(how_many_gaps(thousandths()), 999)
        self.assertEqual(how_many_gaps(thousandths((1, 1), (1, 3), (1, 1999))), 1002)
        names = ["n" + chr(97 + at // 26) + chr(97 + at % 26) for at in range(190)] + ["z"]
        rows = {name: tuple((digit, ahead) for digit in range(10)) for name, ahead in zip(names, names[1:])}
        rows["z"] = ((0, "z"),)
        self.assertEqual(how_many_gaps(set_of((10, rows), names[0])), 10 ** 190 - 1)

    def test_none_just_where_gaps_have_no_end(self):
        kinds = set()
        for value in some_sets(80) + [put(3, (whole(3), several(3, [(1, 4), (1, 2)]), empty(3)))]:
            told = [gap for gap in first_gaps(value, 60) if gap is not None]
            many = how_many_gaps(value)
            kinds.add(many is None)
            self.assertEqual(many, len(told) if len(told) < 60 else None)
        self.assertEqual(kinds, {True, False})


class TestLonger(unittest.TestCase):
    def test_none_that_is_just_as_long(self):
        thirds = set_of((3, {"a": ((0, "a"), (2, "a"))}), "a")
        self.assertEqual(longer(thirds, (1, 1)), [])
        self.assertEqual(longer(thirds, (1, 3)), [])
        self.assertEqual(longer(thirds, (33, 100)), [((1, 3), (2, 3))])
        self.assertEqual(longer(thirds, (1, 9)), [((1, 3), (2, 3))])
        self.assertEqual(longer(thirds, (1, 10)), [((1, 3), (2, 3)), ((1, 9), (2, 9)), ((7, 9), (8, 9))])
        self.assertEqual(longer(several(2, [(0, 1), (1, 1)]), (1, 1)), [])
        self.assertEqual(longer(several(2, [(0, 1), (1, 1)]), (99, 100)), [((0, 1), (1, 1))])

    def test_of_sets_without_gaps(self):
        for base in (2, 10):
            for value in (empty(base), whole(base), alone(base, (1, 3))):
                self.assertEqual(longer(value, (1, 10 ** 300)), [])

    def test_just_a_thousand_are_told_and_more_refused(self):
        value = thousandths((1, 1))
        told = longer(value, (1, 1001))
        self.assertEqual(worths(told), [(worth((at, 1000)), worth((at + 1, 1000))) for at in range(1000)])
        self.assertEqual(longer(value, (1, 1000)), [])
        more = thousandths((1, 1), (1, 2000))
        self.assertEqual(len(longer(more, (1, 1001))), 999)
        self.assertEqual(len(longer(more, (1, 2000))), 999)
        for fraction in ((1, 2001), (1, 10 ** 300)):
            with self.assertRaises(TooMany) as caught:
                longer(more, fraction)
            self.assertEqual(caught.exception.most, 1000)

    def test_refused_of_gaps_without_end(self):
        with self.assertRaises(TooMany):
            longer(set_of(HALVES, "u"), (1, 2 ** 1003))
        self.assertEqual(len(longer(set_of(HALVES, "u"), (1, 2 ** 1001))), 999)
        self.assertEqual(len(longer(set_of(HALVES, "u"), (1, 2 ** 1002))), 1000)
        with self.assertRaises(TooMany):
            longer(dust_in_small_parts(190), (1, 10 ** 192))
        self.assertEqual(longer(dust_in_small_parts(190), (1, 10 ** 190)), [])

    def test_is_a_new_list(self):
        value = set_of(DUST, "x")
        told = longer(value, (1, 100))
        told.pop()
        self.assertEqual(len(longer(value, (1, 100))), len(told) + 1)


if __name__ == "__main__":
    unittest.main()
