import copy
import itertools
import unittest

from dustwithin.books import is_book, live
from tests.things import DUST, anything


def six_names():
    names = ("a", "b", "c", "d", "e", "abcdefgh")
    row = tuple((digit, name) for digit in (0, 9) for name in sorted(names))
    return (10, {name: row for name in names})


def with_row(row):
    """A book to base 3 that is one just where row is a row of it."""
    return (3, {"x": row, "y": ()})


class TestIsBook(unittest.TestCase):
    def assert_book(self, thing, right):
        self.assertIs(is_book(thing), right, repr(thing)[:200])

    def test_books(self):
        self.assert_book(DUST, True)
        self.assert_book(six_names(), True)
        self.assert_book((2, {"a": ()}), True)
        self.assert_book((2, {"u": ((0, "u"), (1, "v")), "v": ((0, "v"),)}), True)
        self.assert_book((2, {"z": (), "a": ((0, "a"), (0, "z"), (1, "z"))}), True)

    def test_things_that_are_none(self):
        for thing in anything():
            self.assert_book(thing, False)
            self.assert_book((2, thing), thing == {"a": ()})
            self.assert_book((2, {"x": ((0, "x"),), "y": thing}), thing == ())
            self.assert_book((2, {"x": (thing,)}), False)
            self.assert_book((2, {"x": ((thing, "x"),)}), thing in (0, 1) and type(thing) is int)
            self.assert_book((2, {"a": ((0, thing),)}), thing == "a")
            self.assert_book((thing, {"x": ()}), thing == 7)

    def test_bases(self):
        for base in range(-2, 14):
            self.assert_book((base, {"x": ()}), 2 <= base <= 10)
        for base in (True, None, "2", (2,), [2], 10 ** 400):
            self.assert_book((base, {"x": ()}), False)

    def test_tuples_of_other_lengths_and_a_list(self):
        self.assert_book((4,), False)
        self.assert_book(DUST + (4,), False)
        self.assert_book(list(DUST), False)
        self.assert_book((DUST[1], DUST[0]), False)

    def test_numbers_of_names(self):
        for many in range(9):
            rows = {name: () for name in "abcdefghi"[:many]}
            self.assert_book((2, rows), 1 <= many <= 6)
        self.assert_book((2, [("x", ())]), False)
        self.assert_book((2, (("x", ()),)), False)

    def test_names(self):
        for name in ("a", "z", "abcdefgh", "zzzzzzzz"):
            self.assert_book((2, {name: ((0, name),)}), True)
        wrong = ("", "abcdefghi", "A", "aB", "a1", "a b", " a", "a ", "a\n", "a_", "-", "\u00e9",
                 "\u0101", "a\u0300", "`", "{", 0, 1, True, False, None, (), ("a",), ("a", "b"))
        for name in wrong:
            self.assert_book((2, {name: ()}), False)
            self.assert_book((2, {"x": (), name: ()}), False)
            self.assert_book((2, {"x": ((0, "x"),), name: ((0, name),)}), False)

    def test_rows(self):
        for row in ((), ((0, "x"),), ((0, "x"), (0, "y"), (1, "x"), (2, "y")), ((2, "y"),)):
            self.assert_book(with_row(row), True)
        for row in ([], [(0, "x")], {}, {(0, "x"): (1, "y")}, None, 0, True, "", "x", "0x", (0, "x")):
            self.assert_book(with_row(row), False)

    def test_numbers_of_pairs(self):
        pairs = sorted(itertools.product(range(7), ("x", "y")))
        for many in range(15):
            self.assert_book((7, {"x": tuple(pairs[:many]), "y": ()}), many <= 12)

    def test_pairs_twice_or_not_rising(self):
        for row in (
            ((0, "x"), (0, "x")),
            ((1, "x"), (0, "x")),
            ((0, "y"), (0, "x")),
            ((0, "x"), (1, "x"), (1, "x")),
            ((0, "x"), (1, "x"), (0, "y")),
            ((1, "x"), (0, "y"), (2, "x")),
        ):
            self.assert_book(with_row(row), False)
            self.assert_book(with_row(tuple(sorted(set(row)))), True)

    def test_wrong_digits(self):
        for digit in (-1, 3, 10 ** 400, True, False, None, "0", (), (0,), [0], {}):
            self.assert_book(with_row(((digit, "x"),)), False)
        self.assert_book(with_row(((0, "x"), (True, "x"))), False)
        self.assert_book(with_row(((0, "x"), (3, "x"))), False)
        self.assert_book(with_row(((0, "x"), (1, "x"), (None, "x"))), False)

    def test_names_without_a_row(self):
        for name in ("z", "X", "", "xy", None, 0, True, (), ("x",), ["x"], {"x": 1}):
            self.assert_book(with_row(((0, name),)), False)
            self.assert_book(with_row(((0, "x"), (1, name))), False)

    def test_pairs_of_other_lengths_and_kinds(self):
        for pair in ((0,), (), (0, "x", 0), (0, "x", "x"), [0, "x"], "0x", {0: "x"}, ("x", 0), None, 0):
            self.assert_book(with_row((pair,)), False)
            self.assert_book(with_row(((0, "x"), pair)), False)

    def test_a_wrong_last_row_is_seen_too(self):
        base, rows = six_names()
        for name in rows:
            for row in ([], ((0, "q"),), ((10, "a"),), ((1, "a"), (0, "a"))):
                self.assert_book((base, {**rows, name: row}), False)

    def test_what_is_handed_in_stays(self):
        for thing in (DUST, six_names(), (3, {"x": [(0, "x")]}), [2, {"x": ()}]):
            ahead = copy.deepcopy(thing)
            is_book(thing)
            self.assertEqual(thing, ahead)
        self.assertEqual(list(DUST[1]), ["x", "y"])


class TestLive(unittest.TestCase):
    def test_all(self):
        self.assertEqual(live(DUST), ["x", "y"])
        self.assertEqual(live(six_names()), ["a", "abcdefgh", "b", "c", "d", "e"])

    def test_rows_of_none(self):
        self.assertEqual(live((2, {"a": ()})), [])
        self.assertEqual(live((2, {"b": (), "a": ((0, "a"),)})), ["a"])

    def test_chains_that_end(self):
        rows = {"a": ((0, "b"),), "b": ((1, "c"),), "c": ((0, "d"), (1, "d")), "d": ()}
        self.assertEqual(live((2, rows)), [])

    def test_chains_that_come_back(self):
        rows = {"c": ((0, "a"),), "a": ((0, "b"),), "b": ((1, "c"), (1, "d")), "d": ()}
        self.assertEqual(live((2, rows)), ["a", "b", "c"])

    def test_names_that_only_lead_to_such(self):
        rows = {"p": ((1, "q"),), "q": ((0, "r"),), "r": ((0, "r"),), "s": ((0, "t"),), "t": ()}
        self.assertEqual(live((2, rows)), ["p", "q", "r"])

    def test_a_name_from_which_none_leads_on_but_to_itself(self):
        rows = {"b": ((0, "a"), (1, "b")), "a": ()}
        self.assertEqual(live((2, rows)), ["b"])

    def test_longest_chain_told_in_any_order(self):
        names = "abcdef"
        rows = {name: ((0, other),) for name, other in zip(names, names[1:])}
        for last, told in (((), []), (((1, "f"),), list(names)), (((1, "a"),), list(names))):
            full = {**rows, "f": last}
            self.assertEqual(live((2, full)), told)
            self.assertEqual(live((2, {name: full[name] for name in reversed(names)})), told)

    def test_the_list_is_rising_whatever_the_dict_s_order(self):
        for names in itertools.permutations(("a", "ab", "b", "zz")):
            self.assertEqual(live((2, {name: ((0, name),) for name in names})), ["a", "ab", "b", "zz"])

    def test_the_list_is_new_and_the_book_stays(self):
        ahead = copy.deepcopy(DUST)
        told = live(DUST)
        self.assertIs(type(told), list)
        told.append("mine")
        told[0] = None
        self.assertEqual(live(DUST), ["x", "y"])
        self.assertEqual(DUST, ahead)

    def test_a_book_that_was_changed_behind_the_call(self):
        book = (2, {"a": ((0, "a"),), "b": ()})
        self.assertEqual(live(book), ["a"])
        book[1]["b"] = ((1, "b"),)
        book[1]["a"] = ()
        self.assertEqual(live(book), ["b"])


if __name__ == "__main__":
    unittest.main()
