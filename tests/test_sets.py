import copy
import itertools
import unittest

from dustwithin.books import is_book, way_to
from dustwithin.points import is_in
from dustwithin.sets import book_of, cell_at, is_set, set_of
from tests.things import (
    DUST, HALVES, alone, anything, circle, empty, fraction_worth, fractions_to, lone_circle, small_books,
    some_books, some_sets, whole, worth,
)

DUST_SET = (4, ((None, 0, 1, None), (0, None, None, None)))
HALF_SET = (2, ((1, 2), (None, 1), (2, None)))
CANTOR_SET = (3, ((0, 1, 0), (2, None, 3), (2, None, None), (None, None, 3)))
HALVES_SET = (2, ((1, 2), (1, 3), (2, None), (2, 4), (None, 4)))


def goes_on(rows, digit, at):
    """Whether a cell has the number whose digits are all digit."""
    for _ in range(len(rows) + 1):
        if at is None:
            return False
        at = rows[at][digit]
    return True


def words_of(rows, at, size):
    """All rows of at most so many digits by which a cell's cells aren't empty."""
    found = {()}
    heads = {(): at}
    for _ in range(size):
        heads = {
            word + (digit,): number
            for word, here in heads.items() for digit, number in enumerate(rows[here]) if number is not None
        }
        found |= set(heads)
    return found


def is_set_by_hand(base, rows):
    """Whether rows of None and right numbers are a set, point by point of what 7 says."""
    if any(set(row) == {None} for row in rows):
        return False
    order = [0] if rows else []
    for at in range(len(rows)):
        if at >= len(order):
            return False
        order += [number for number in dict.fromkeys(rows[at]) if number is not None and number not in order]
    if order != list(range(len(rows))):
        return False
    words = [words_of(rows, at, len(rows)) for at in range(len(rows))]
    if any(one == other for one, other in itertools.combinations(words, 2)):
        return False
    return all(
        goes_on(rows, base - 1, lower) == goes_on(rows, 0, upper)
        for row in rows for lower, upper in zip(row, row[1:])
    )


def with_entry(value, at, digit, entry):
    base, rows = value
    row = rows[at][:digit] + (entry,) + rows[at][digit + 1:]
    return (base, rows[:at] + (row,) + rows[at + 1:])


class TestSetOf(unittest.TestCase):
    def test_the_values_that_the_document_writes_out(self):
        self.assertEqual(set_of(DUST, "x"), DUST_SET)
        self.assertEqual(set_of(HALVES, "u"), HALVES_SET)
        self.assertEqual(set_of(HALVES, "v"), (2, ((0, None),)))
        for base in range(2, 11):
            book = (base, {"a": tuple((digit, "a") for digit in range(base))})
            self.assertEqual(set_of(book, "a"), (base, ((0,) * base,)))

    def test_ends_of_gaps_between_cells(self):
        self.assertEqual(set_of((3, {"c": ((0, "c"), (2, "c"))}), "c"), CANTOR_SET)

    def test_a_half_whichever_way_it_is_told(self):
        nought, ones = ((0, "n"),), ((1, "m"),)
        rest = {"n": nought, "m": ones, "e": (), "f": ((0, "e"), (1, "e"))}
        for row in (
            ((1, "n"),),
            ((0, "m"),),
            ((0, "m"), (1, "n")),
            ((0, "m"), (1, "e"), (1, "n")),
            ((0, "e"), (0, "f"), (1, "e"), (1, "f"), (1, "n")),
        ):
            self.assertEqual(set_of((2, {"h": row, **rest}), "h"), HALF_SET, row)

    def test_borders_told_from_one_side_from_the_other_and_from_both(self):
        for base in range(2, 11):
            for upper in range(1, base):
                told = []
                for row in (((upper, "n"),), ((upper - 1, "m"),), ((upper - 1, "m"), (upper, "n"))):
                    book = (base, {"h": row, "n": ((0, "n"),), "m": ((base - 1, "m"),)})
                    told.append(set_of(book, "h"))
                self.assertEqual(told[0], told[1])
                self.assertEqual(told[0], told[2])
                row = told[0][1][0]
                self.assertTrue(row[upper - 1] is not None and row[upper] is not None)

    def test_names_without_endless_ways(self):
        book = (3, {"a": ((0, "b"), (2, "b")), "b": ((1, "c"),), "c": (), "d": ((0, "d"), (1, "a"))})
        for name in "abc":
            self.assertEqual(set_of(book, name), (3, ()))
        self.assertEqual(set_of(book, "d"), (3, ((0, None, None),)))

    def test_names_called_otherwise(self):
        for book, name in some_books(60):
            base, rows = book
            calls = dict(zip("abcd", ("zz", "b", "abcdefgh", "a")))
            other = {calls[own]: tuple(sorted((d, calls[to]) for d, to in row)) for own, row in rows.items()}
            self.assertEqual(set_of((base, other), calls[name]), set_of(book, name))

    def test_a_dead_name_put_in(self):
        for book, name in some_books(60, most_pairs=3):
            base, rows = book
            other = {own: tuple(sorted(row + ((0, "dead"), (base - 1, "end")))) for own, row in rows.items()}
            other = {**other, "dead": ((0, "end"), (1, "end")), "end": ()}
            self.assertEqual(set_of((base, other), name), set_of(book, name))

    def test_a_second_name_of_one_row(self):
        for book, name in some_books(60, most_pairs=3):
            base, rows = book
            twin = tuple((digit, "twin" if to == name else to) for digit, to in rows[name])
            other = {**rows, "twin": tuple(sorted(set(rows[name] + twin)))}
            self.assertEqual(set_of((base, other), "twin"), set_of(book, name))
            self.assertEqual(set_of((base, other), name), set_of(book, name))

    def test_has_just_the_points_of_the_name(self):
        fractions = fractions_to(16)
        books = [(book, name) for book in small_books() for name in "ab"] + some_books(80)
        for book, name in books:
            value = set_of(book, name)
            self.assertIs(is_set(value), True)
            for fraction in fractions:
                right = way_to(book, name, fraction) is not None
                self.assertIs(is_in(value, fraction), right, (book, name, fraction))

    def test_one_value_just_where_the_points_are_one(self):
        fractions = fractions_to(16)
        points_of = {}
        for book in small_books():
            for name in "ab":
                points = tuple(one for one in fractions if way_to(book, name, one) is not None)
                points_of.setdefault(set_of(book, name), set()).add(points)
        self.assertTrue(all(len(points) == 1 for points in points_of.values()))
        self.assertEqual(len({min(points) for points in points_of.values()}), len(points_of))

    def test_sixty_three_lots_and_more(self):
        names = "abcdef"
        rows = {name: tuple(sorted({(0, name), (1, other), (2, names[0])}))
                for name, other in zip(names, names[1:] + names[:1])}
        rows["f"] = ((0, "f"), (1, "a"))
        value = set_of((4, rows), "a")
        self.assertTrue(is_set(value))
        for fraction in fractions_to(40):
            self.assertIs(is_in(value, fraction), way_to((4, rows), "a", fraction) is not None)

    def test_the_cells_ends(self):
        for value in [set_of(book, name) for book in small_books() for name in "ab"] + some_sets(60):
            base, rows = value
            for row in rows:
                for lower, upper in zip(row, row[1:]):
                    self.assertEqual(goes_on(rows, base - 1, lower), goes_on(rows, 0, upper))

    def test_what_is_handed_in_stays(self):
        for book, name in some_books(20):
            ahead = copy.deepcopy(book)
            value = set_of(book, name)
            self.assertEqual(book, ahead)
            book[1].clear()
            self.assertEqual(value, set_of(ahead, name))


class TestIsSet(unittest.TestCase):
    def assert_set(self, thing, right):
        self.assertIs(is_set(thing), right, repr(thing)[:200])

    def test_values_of_names(self):
        for value in [DUST_SET, HALF_SET, HALVES_SET] + some_sets(60):
            self.assert_set(value, True)
        for base in range(2, 11):
            self.assert_set(empty(base), True)
            self.assert_set(whole(base), True)
            self.assert_set(alone(base, (1, 7)), True)

    def test_things_of_other_kinds(self):
        for thing in anything():
            self.assert_set(thing, False)
            self.assert_set((2, thing), thing == ())
            self.assert_set((thing, ()), thing == 7 and type(thing) is int)
            self.assert_set((2, (thing,)), False)
            self.assert_set((2, ((0, thing),)), thing is None or (thing == 0 and type(thing) is int))
            self.assert_set((2, ((0, 0), thing)), False)

    def test_bases(self):
        for base in range(-1, 13):
            self.assert_set((base, ()), 2 <= base <= 10)
            self.assert_set((base, ((0,) * base,)), 2 <= base <= 10)
        for base in (True, None, "2", (2,), 2 ** 70):
            self.assert_set((base, ()), False)
            self.assert_set((base, ((0, 0),)), False)

    def test_lists_in_place_of_tuples(self):
        for value in (DUST_SET, HALF_SET, HALVES_SET):
            base, rows = value
            self.assert_set([base, rows], False)
            self.assert_set((base, list(rows)), False)
            self.assert_set((base, (list(rows[0]),) + rows[1:]), False)
            self.assert_set((base, rows[:-1] + (list(rows[-1]),)), False)
            self.assert_set((base, dict(enumerate(rows))), False)
            self.assert_set((base, rows, rows), False)
            self.assert_set((base,), False)
        self.assert_set([2, ()], False)
        self.assert_set((2, []), False)

    def test_truths_in_place_of_numbers(self):
        self.assert_set((2, ((0, 0),)), True)
        self.assert_set((2, ((False, 0),)), False)
        self.assert_set((2, ((0, False),)), False)
        self.assert_set((2, ((True, 2), (None, 1), (2, None))), False)
        self.assert_set((2, ((1, 2), (None, True), (2, None))), False)
        self.assert_set((2, ((1, 2), (False, 1), (2, None))), False)
        self.assert_set((True, ((0,),)), False)

    def test_a_number_otherwise(self):
        for value in (DUST_SET, HALF_SET, HALVES_SET, CANTOR_SET):
            base, rows = value
            for at, digit in itertools.product(range(len(rows)), range(base)):
                for entry in [None, -10 ** 400, -len(rows) - 1, 10 ** 400] + list(range(-len(rows), len(rows) + 1)):
                    other = with_entry(value, at, digit, entry)
                    wrong_number = entry is not None and not 0 <= entry < len(rows)
                    right = not wrong_number and is_set_by_hand(*other)
                    self.assert_set(other, right)

    def test_all_small_tables(self):
        many = 0
        for size in range(4):
            entries = [None] + list(range(size))
            for flat in itertools.product(entries, repeat=2 * size):
                rows = tuple(flat[at:at + 2] for at in range(0, 2 * size, 2))
                right = is_set_by_hand(2, rows)
                self.assert_set((2, rows), right)
                many += right
        # the empty set; {0}, {1}, all; and the few of two and three rows
        self.assertGreater(many, 10)

    def test_all_small_tables_by_the_books_they_are(self):
        for flat in itertools.product((None, 0, 1), repeat=6):
            rows = (flat[:3], flat[3:])
            book = (3, {"ab"[at]: tuple((digit, "ab"[number]) for digit, number in enumerate(row)
                                        if number is not None) for at, row in enumerate(rows)})
            self.assert_set((3, rows), set_of(book, "a") == (3, rows))

    def test_rows_exchanged_twice_or_left_out(self):
        one, two, three, four, five = HALVES_SET[1]
        self.assert_set((2, (one, three, two, four, five)), False)
        self.assert_set((2, (one, two, three, five, four)), False)
        for value in (DUST_SET, HALF_SET, HALVES_SET, alone(10, (1, 7)), alone(3, (5, 18))):
            base, rows = value
            for one, other in itertools.combinations(range(len(rows)), 2):
                exchanged = list(rows)
                exchanged[one], exchanged[other] = exchanged[other], exchanged[one]
                self.assert_set((base, tuple(exchanged)), is_set_by_hand(base, tuple(exchanged)))
            for at in range(len(rows)):
                self.assert_set((base, rows[:at + 1] + rows[at:]), False)
                self.assert_set((base, rows + rows[at:at + 1]), False)
                left = rows[:at] + rows[at + 1:]
                numbers_fit = all(number is None or number < len(left) for row in left for number in row)
                self.assert_set((base, left), numbers_fit and is_set_by_hand(base, left))

    def test_another_base(self):
        for value in (DUST_SET, HALF_SET, HALVES_SET, whole(3)):
            for base in range(2, 11):
                self.assert_set((base, value[1]), base == value[0])

    def test_numbers_that_do_not_come_in_order(self):
        self.assert_set((3, ((1, None, 2), (1, None, None), (None, None, 2))), True)
        self.assert_set((3, ((2, None, 1), (None, None, 1), (2, None, None))), False)
        self.assert_set((4, ((None, 1, 2, None), (None, 0, None, None), (None, None, 0, None))), True)
        self.assert_set((4, ((None, 2, 1, None), (None, None, 0, None), (None, 0, None, None))), False)

    def test_empty_cells_that_have_numbers(self):
        self.assert_set((2, ((None, None),)), False)
        self.assert_set((4, ((None, 0, 1, None), (None,) * 4)), False)
        self.assert_set((4, ((None, 1, 2, None), (None, 1, None, None), (None,) * 4)), False)
        self.assert_set((2, ((0, 1), (None, None))), False)

    def test_two_rows_that_are_one_cell(self):
        self.assert_set((2, ((1, 1), (0, 0))), False)
        self.assert_set((3, ((1, None, 1), (0, None, 0))), False)
        self.assert_set((4, ((None, 1, 0, None), (None, 0, 1, None))), False)
        self.assert_set((4, ((None, 1, None, None), (None, 1, None, None))), False)
        long_way = circle(4, 60, (1, 2), (1, 2))
        self.assert_set(long_way, False)
        self.assert_set(circle(4, 60, (1, 2), (1,)), True)

    def test_ends_that_agree_from_one_side_alone(self):
        # 1/2 told from above, from below
        self.assert_set((2, ((None, 1), (1, None))), False)
        self.assert_set((2, ((1, None), (None, 1))), False)
        self.assert_set((3, ((None, 0, None),)), True)
        self.assert_set((3, ((0, None, 0),)), False)
        self.assert_set((3, ((0, 0, None),)), False)
        self.assert_set((3, ((None, 0, 0),)), False)
        # 0 and 2 again and again: 1/3 and 2/3 are in the middle, too
        self.assert_set(CANTOR_SET, True)
        self.assert_set((3, ((0, 1, 0), (1, None, None))), False)
        self.assert_set((3, ((0, 1, 0), (None, None, 1))), False)
        self.assert_set((4, ((0, 1, None, 0), (0, None, None, None))), False)
        self.assert_set((4, ((0, None, 1, 0), (None, None, None, 1))), False)

    def test_two_hundred_rows_and_one_more(self):
        for size in (199, 200, 201, 5000):
            self.assert_set(lone_circle(4, size)[0], size <= 200)
            self.assert_set(circle(10, size, (1, 2, 3, 8), (1, 8)), size <= 200)

    def test_what_is_handed_in_stays(self):
        for thing in ([2, [[0, 0]]], (2, ([0, 0],)), {"a": [2]}, HALF_SET):
            ahead = copy.deepcopy(thing)
            is_set(thing)
            self.assertEqual(thing, ahead)


class TestBookOf(unittest.TestCase):
    def look_at(self, value):
        told = book_of(value)
        self.assertIs(type(told), tuple)
        book, name = told
        base, rows = book
        self.assertEqual((type(book), type(rows)), (tuple, dict))
        self.assertEqual(base, value[0])
        self.assertEqual(len(rows), max(1, len(value[1])))
        self.assertIn(name, rows)
        for own, row in rows.items():
            self.assertTrue(own.isascii() and own.isalpha() and own.islower() and len(own) <= 8)
            self.assertIs(type(row), tuple)
            self.assertEqual(row, tuple(sorted(set(row))))
            self.assertTrue(all(0 <= digit < base and to in rows for digit, to in row))
        self.assertIs(is_book(book), len(rows) <= 6)
        self.assertEqual(set_of(book, name), value)

    def test_books_of_sets(self):
        for value in [DUST_SET, HALF_SET, HALVES_SET] + some_sets(60):
            self.look_at(value)

    def test_the_empty_set_and_all(self):
        for base in range(2, 11):
            self.look_at(empty(base))
            self.look_at(whole(base))

    def test_sets_of_many_rows(self):
        for size in (6, 7, 25, 26, 27, 28, 199, 200):
            self.look_at(lone_circle(4, size)[0])
            self.look_at(circle(10, size, (2, 3, 5), (5,)))
        self.look_at(circle(4, 700, (1, 2), (1,)))
        self.look_at(alone(3, (5, 2 * 3 ** 100)))

    def test_what_is_told_is_new_each_time(self):
        for value in (DUST_SET, empty(3)):
            (_, rows), name = book_of(value)
            rows.clear()
            rows["mine"] = None
            (_, rows), name = book_of(value)
            self.assertEqual(set_of((value[0], rows), name), value)


class TestCellAt(unittest.TestCase):
    def test_by_no_digits(self):
        for value in [HALF_SET, empty(2), whole(9)] + some_sets(40):
            self.assertEqual(cell_at(value, ()), value)

    def test_by_hand(self):
        self.assertEqual(cell_at(DUST_SET, (1,)), DUST_SET)
        self.assertEqual(cell_at(DUST_SET, (2,)), (4, ((1, None, None, None), (None, 1, 0, None))))
        self.assertEqual(cell_at(HALF_SET, (0,)), (2, ((None, 0),)))
        self.assertEqual(cell_at(HALF_SET, (1,)), (2, ((0, None),)))
        self.assertEqual(cell_at(HALVES_SET, (0,)), (2, ((0, 1), (2, 3), (2, None), (None, 3))))

    def test_a_cell_s_points(self):
        for value in some_sets(40):
            base = value[0]
            for digit in range(base):
                cell = cell_at(value, (digit,))
                self.assertIs(is_set(cell), True)
                for fraction in fractions_to(9):
                    right = is_in(value, fraction_worth((digit + worth(fraction)) / base))
                    self.assertIs(is_in(cell, fraction), right)

    def test_a_cell_of_a_cell(self):
        for value in some_sets(30, bases=(2, 3)):
            base = value[0]
            for digits in itertools.product(range(base), repeat=3):
                step_by_step = cell_at(cell_at(cell_at(value, digits[:1]), digits[1:2]), digits[2:])
                self.assertEqual(cell_at(value, digits), step_by_step)

    def test_behind_an_empty_cell(self):
        for digits in ((0,), (3,), (2, 1), (0, 1), (0, 0, 0, 0), (2, 3, 1)):
            self.assertEqual(cell_at(DUST_SET, digits), (4, ()))
        self.assertEqual(cell_at(empty(2), (0, 1)), (2, ()))

    def test_many_digits(self):
        value = lone_circle(4, 200)[0]
        self.assertEqual(cell_at(value, (1,) * 199 + (2,)), value)
        self.assertEqual(cell_at(value, ((1,) * 199 + (2,)) * 5), value)
        self.assertEqual(cell_at(value, (1,) * 200), (4, ()))
        self.assertEqual(cell_at(value, (1,) * 199), alone(4, (2 * 4 ** 199 + (4 ** 199 - 1) // 3, 4 ** 200 - 1)))
        self.assertEqual(cell_at(whole(10), (9, 0) * 500), whole(10))


if __name__ == "__main__":
    unittest.main()
