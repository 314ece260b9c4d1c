import random
import unittest

from dustwithin.books import point_by
from dustwithin.errors import DustError
from dustwithin.gaps import how_many_gaps
from dustwithin.house import House
from dustwithin.joins import joined, met, stretch, turned
from dustwithin.lengths import length
from dustwithin.limits import how_many, kernel, limits, rank
from dustwithin.mixes import mixed
from dustwithin.points import greatest, is_in, least, over, under
from dustwithin.sets import book_of, parted, set_of
from dustwithin.shares import just_at, mean
from tests.things import fraction_worth, fractions_to, some_books, worth

FRACTIONS = fractions_to(9) + [(7, 27), (3, 16), (13, 64), (31, 100), (80, 81)]


def histories(base, many):
    """Houses of a base after some deeds, always the same ones."""
    books = some_books(20, bases=(base,), most_pairs=4)
    for seed in range(many):
        chance = random.Random(100 * base + seed)
        house = House(base)
        names = ["a", "b", "c", "d", "e", "f"]
        for _ in range(25):
            one, other = chance.choice(names), chance.choice(names)
            form = chance.choice([
                ("book", *chance.choice(books)), ("book", *chance.choice(books)), ("book", *chance.choice(books)),
                ("joined", one, other), ("met", one, other), ("turned", one), ("limits", one), ("kernel", one),
                ("cut", one, (1, 4), (2, 3)), ("mixed", (one, other), (1, -1), 1, 2), ("mixed", (one,), (2,), 0, 3),
            ])
            try:
                house.tell(chance.choice(names), form)
                if chance.random() < 0.1:
                    house.drop(chance.choice(names))
                if chance.random() < 0.1:
                    house.mark()
                if chance.random() < 0.1:
                    house.back(0)
            except DustError:
                pass
        yield house


class TestWhole(unittest.TestCase):
    def shown(self, house, name, fraction):
        """Shows why a fraction is a point, down to ways in told books."""
        word, things = house.why(name, fraction)
        form = house.form(name)
        if word == "book":
            self.assertEqual(point_by(form[1], form[2], *things), fraction)
        for own, point in things if word != "book" else ():
            self.assertTrue(is_in(house.value(own), point))
            self.shown(house, own, point)

    def test_a_fraction_is_a_point_or_lies_between_neighbours_never_both(self):
        kinds = set()
        for base in (2, 3, 4):
            for house in histories(base, 6):
                for name in house.names():
                    value = house.value(name)
                    for fraction in FRACTIONS:
                        below, above = under(value, fraction), over(value, fraction)
                        if house.why(name, fraction) is not None:
                            kinds.add("point")
                            self.assertEqual((below, above), (fraction, fraction))
                            self.shown(house, name, fraction)
                        elif not value[1]:
                            kinds.add("no point")
                            self.assertEqual((below, above, least(value), greatest(value)), (None,) * 4)
                        elif below is None:
                            kinds.add("under")
                            self.assertEqual(above, least(value))
                            self.assertLess(worth(fraction), worth(above))
                        elif above is None:
                            kinds.add("over")
                            self.assertEqual(below, greatest(value))
                            self.assertLess(worth(below), worth(fraction))
                        else:
                            kinds.add("between")
                            self.assertTrue(worth(below) < worth(fraction) < worth(above))
                            between = fraction_worth((worth(below) + worth(above)) / 2)
                            self.assertEqual((under(value, between), over(value, between)), (below, above))
        self.assertEqual(kinds, {"point", "no point", "under", "over", "between"})

    def test_one_value_just_where_no_fraction_is_a_point_of_one_alone(self):
        pairs = {True: 0, False: 0}
        for base in (2, 3, 4):
            values = [house.value(name) for house in histories(base, 5) for name in house.names()]
            for one in values:
                self.assertEqual(set_of(*book_of(one)), one)
                for other in values:
                    apart = parted(one, other)
                    self.assertEqual(apart is None, one == other)
                    pairs[one == other] += 1
                    if apart is not None:
                        fraction, side = apart
                        self.assertEqual([is_in(one, fraction), is_in(other, fraction)], [side == 0, side == 1])
        self.assertTrue(pairs[True] > 50 and pairs[False] > 50)

    def test_like_sets_by_unlike_deeds(self):
        for base in (2, 3, 4, 10):
            for book, name in some_books(12, bases=(base,), most_pairs=4):
                house = House(base)
                house.tell("a", ("book", book, name))
                house.tell("b", ("turned", "a"))
                for own, form in (
                    ("c", ("turned", "b")), ("d", ("joined", "a", "c")), ("e", ("met", "a", "a")),
                    ("f", ("mixed", ("b",), (-1,), 1, 1)), ("g", ("cut", "a", (0, 1), (1, 1))),
                    ("h", ("book", *book_of(house.value("a")))),
                ):
                    try:
                        house.tell(own, form)
                        self.assertEqual(house.value(own), house.value("a"), form)
                    except DustError:
                        # of more rows than six names of a book tell
                        self.assertEqual(own, "h")
                        self.assertGreater(len(house.value("a")[1]), 6)
                group = [group for group in house.groups() if "a" in group][0]
                self.assertTrue(set("acdefg") <= set(group))

    def test_deeds_and_functions_tell_the_same_laws(self):
        for base in (2, 3, 4):
            values = [set_of(book, name) for book, name in some_books(14, bases=(base,), most_pairs=4)]
            half = stretch(base, (0, 1), (1, 2))
            for one, other in zip(values, values[1:]):
                both = joined(one, other)
                self.assertEqual(turned(both), joined(turned(one), turned(other)))
                self.assertEqual(met(both, one), one)
                self.assertEqual(limits(both), joined(limits(one), limits(other)))
                self.assertEqual(rank(both) == 0, limits(both) == both)
                self.assertEqual(limits(kernel(both)), kernel(both))
                self.assertEqual(worth(length(both)) + worth(length(met(one, other))),
                                 worth(length(one)) + worth(length(other)))
                self.assertEqual(how_many_gaps(both), how_many_gaps(turned(both)))
                if how_many(one) is not None and how_many(other) is not None:
                    self.assertEqual(how_many(both), how_many(one) + how_many(other) - how_many(met(one, other)))
                self.assertEqual(mixed((half, one), (0, 1), 0, 1), one)

    def test_shares_and_sets(self):
        for book, name in some_books(30, most_pairs=4):
            shared = (book[0], {
                own: tuple((digit, ahead, (1, len(row))) for digit, ahead in row) for own, row in book[1].items()
            })
            value = set_of(book, name)
            self.assertTrue(worth(least(value)) <= worth(mean(shared, name)) <= worth(greatest(value)))
            for fraction in FRACTIONS:
                if not is_in(value, fraction):
                    self.assertEqual(just_at(shared, name, fraction), (0, 1))


if __name__ == "__main__":
    unittest.main()
