import copy
import itertools
import unittest

from dustwithin.books import is_book
from dustwithin.errors import NoText
from dustwithin.fractions import is_fraction
from dustwithin.sets import is_set, set_of
from dustwithin.texts import read_book, read_fraction, read_set, show_book, show_fraction, show_set
from tests.things import DUST, HALVES, alone, circle, empty, fractions_to, some_books, some_sets, whole

DUST_TEXT = "4\nx = 1 x, 2 y\ny = 0 x"


class Case(unittest.TestCase):
    def wrong(self, read, text, place):
        with self.subTest(read=read.__name__, text=text):
            with self.assertRaises(NoText) as caught:
                read(text)
            self.assertEqual(caught.exception.place, place)


class TestShow(unittest.TestCase):
    def test_fractions(self):
        self.assertEqual(show_fraction((0, 1)), "0/1")
        self.assertEqual(show_fraction((1, 1)), "1/1")
        self.assertEqual(show_fraction((23, 60)), "23/60")
        self.assertEqual(show_fraction((1, 10 ** 12)), "1/1000000000000")

    def test_numbers_of_many_figures(self):
        for size in (63, 64, 65, 127, 128, 129, 640, 4000, 5000):
            self.assertEqual(show_fraction((1, 10 ** size)), "1/1" + "0" * size)
            self.assertEqual(show_fraction((10 ** size - 1, 10 ** size)), "9" * size + "/1" + "0" * size)
        self.assertEqual(show_fraction((7, 3 * 10 ** 64 + 5)), "7/3" + "0" * 63 + "5")

    def test_books(self):
        self.assertEqual(show_book(DUST), DUST_TEXT)
        self.assertEqual(show_book((10, {"b": (), "a": ((0, "a"), (9, "b")), "ab": ((3, "b"),)})),
                         "10\na = 0 a, 9 b\nab = 3 b\nb = -")
        self.assertEqual(show_book(HALVES), "2\nu = 0 u, 1 v\nv = 0 v")

    def test_sets(self):
        self.assertEqual(show_set(set_of(DUST, "x")), "4\n- 0 1 -\n0 - - -")
        self.assertEqual(show_set(empty(7)), "7")
        self.assertEqual(show_set(whole(10)), "10\n0 0 0 0 0 0 0 0 0 0")
        self.assertEqual(show_set(alone(2, (1, 2))), "2\n1 2\n- 1\n2 -")

    def test_what_is_handed_in_stays(self):
        book = copy.deepcopy(DUST)
        show_book(book)
        self.assertEqual(book, DUST)
        self.assertEqual(list(book[1]), list(DUST[1]))


class TestThereAndBack(unittest.TestCase):
    def test_fractions(self):
        for fraction in fractions_to(30) + [(1, 999999999), (999999998, 999999999)]:
            self.assertEqual(read_fraction(show_fraction(fraction)), fraction)

    def test_books(self):
        for book, _ in some_books(60) + [(DUST, "x"), (HALVES, "u"), ((2, {"a": ()}), "a")]:
            told = read_book(show_book(book))
            self.assertEqual(told, book)
            self.assertEqual(list(told[1]), sorted(book[1]))
            self.assertTrue(is_book(told))
        full = (10, {name: tuple((digit, own) for digit in range(6) for own in ("a", "f")) for name in "abcdef"})
        self.assertEqual(read_book(show_book(full)), full)

    def test_sets(self):
        for value in some_sets(60) + [whole(10), empty(2), empty(10), circle(10, 200, (1,), (2, 3))]:
            self.assertEqual(read_set(show_set(value)), value)

    def test_told_things_are_new(self):
        told = read_book(DUST_TEXT)
        told[1].clear()
        self.assertEqual(read_book(DUST_TEXT), DUST)


class TestReadFraction(Case):
    def test_places(self):
        for text, place in (
            ("", 0), ("/", 0), ("/1", 0), ("a/2", 0), (" 1/2", 0), ("-1/2", 0), ("+1/2", 0), ("\n1/2", 0), (".5", 0),
            ("1", 1), ("12", 2), ("0", 1), ("1 /2", 1), ("1.5", 1), ("1\n/2", 1), ("1-2", 1), ("00/1", 1), ("01/2", 1),
            ("1/", 2), ("1/ 2", 2), ("1//2", 2), ("1/-2", 2), ("1/a", 2), ("1/\n", 2),
            ("1/2 ", 3), ("1/2/3", 3), ("1/2a", 3), ("1/2\n", 3), ("1/02", 3), ("1/00", 3), ("0/01", 3), ("12/5x", 4),
            ("123456789", 9), ("1234567890", 9), ("1234567890/1", 9), ("123456789/", 10),
            ("1/1234567890", 11), ("1/1000000000", 11), ("0000000000/1", 1),
        ):
            self.wrong(read_fraction, text, place)

    def test_looked_at_last(self):
        for text in ("1/0", "0/0", "2/4", "3/2", "2/1", "0/2", "10/10", "999999999/3", "2/2", "3/999999999"):
            self.wrong(read_fraction, text, len(text))

    def test_the_first_sign_with_which_none_goes_on(self):
        right = {show_fraction(fraction) for fraction in fractions_to(22)}
        # what is looked at last aside: all that are numbers by their figures
        written = {f"{top}/{bottom}" for top in range(334) for bottom in range(334)}
        starts = {text[:size] for text in written for size in range(len(text) + 1)}
        for size in range(4):
            for signs in itertools.product("0123/ -a", repeat=size):
                text = "".join(signs)
                if text in right:
                    self.assertTrue(is_fraction(read_fraction(text)))
                else:
                    sizes = [many for many in range(size) if text[:many + 1] not in starts]
                    self.wrong(read_fraction, text, sizes[0] if sizes else size)


class TestReadBook(Case):
    def test_base(self):
        for text in ("", "1", "11", "0", "02", "a", " 4", "4 ", "-4", "100", "10000000000", "4,", "x = -", "+4"):
            self.wrong(read_book, text, 0)
            self.wrong(read_book, text + "\nx = -", 0)
        for base in range(2, 11):
            self.assertEqual(read_book(f"{base}\nx = -"), (base, {"x": ()}))

    def test_ends_too_early(self):
        self.wrong(read_book, "4", 1)
        self.wrong(read_book, "4\nx = 0 y", 2)
        self.wrong(read_book, "4\nx = 0 y\nz = -", 3)
        self.wrong(read_book, "4\na = 0 a\nx = 0 y, 1 z\nz = -", 4)
        self.assertEqual(read_book("4\nx = 0 y\ny = -"), (4, {"x": ((0, "y"),), "y": ()}))

    def test_lines(self):
        for line in (
            "", " ", "x", "x =", "x = ", "x =-", "x= -", "x=-", " x = -", "x = - ", "x =  -", "x  = -", "x = -,", "= -",
            " = -", "X = -", "x1 = -", "abcdefghi = -", "x y = -", "x = --", "x = 0", "x = x", "x = 0x", "x = 0  x",
            "x = 0 x,", "x = 0 x, ", "x = 0 x,1 x", "x = 0 x , 1 x", "x = 0 x,  1 x", "x =  0 x", "x = 0 x ", "x = 0 X",
            "x = 00 x", "x = 4 x", "x = 9 x", "x = 10 x", "x = -1 x", "x = 0 x1", "x = 0 abcdefghi", "x = 0 x 1 x",
            "x = 1 x, 0 x", "x = 0 x, 0 x", "x = 0 x, -", "x = -, 0 x", "x = 0 x, 0 a", "x = 0000000000 x",
            "x = 0 x; 1 x",
            "x := 0 x", "x = x 0", "x == -", "x = - = -", "x = 0 =",
        ):
            self.wrong(read_book, "4\n" + line, 1)
            self.wrong(read_book, "4\na = -\n" + line, 2)
            self.wrong(read_book, "4\na = -\n" + line + "\nz = -\nz = -", 2)

    def test_names_rise(self):
        self.wrong(read_book, "4\nb = -\na = -", 2)
        self.wrong(read_book, "4\na = -\na = -", 2)
        self.wrong(read_book, "4\na = -\nc = -\nb = -\nd = -", 3)
        self.wrong(read_book, "4\nab = -\naa = -", 2)
        self.assertEqual(list(read_book("4\na = -\naa = -\nab = -\nb = -")[1]), ["a", "aa", "ab", "b"])

    def test_a_seventh_names_line(self):
        six = "4\n" + "\n".join(f"{name} = -" for name in "abcdef")
        self.assertEqual(len(read_book(six)[1]), 6)
        self.wrong(read_book, six + "\ng = -", 7)
        self.wrong(read_book, six + "\n", 7)
        self.wrong(read_book, six + "\ng = -\nh = -", 7)

    def test_a_thirteenth_pair(self):
        names = [first + second for first in "abc" for second in "abcdef"]
        pairs = [f"{digit} {name}" for digit in (0, 3) for name in names[:6]]
        lines = "\n".join(f"{name} = -" for name in names[1:6])
        twelve = (4, {name: () for name in names[1:6]})
        twelve[1]["aa"] = tuple((digit, name) for digit in (0, 3) for name in names[:6])
        self.assertEqual(read_book(f"4\naa = {', '.join(pairs)}\n{lines}"), twelve)
        self.wrong(read_book, f"4\naa = {', '.join(pairs + ['3 zz'])}\n{lines}\nzz = -", 1)
        more = ["0 aa", "1 aa"] + pairs[6:]
        self.assertEqual(len(read_book(f"4\naa = {', '.join(more)}\n{lines}")[1]["aa"]), 8)

    def test_empty_lines(self):
        self.wrong(read_book, "4\n", 1)
        self.wrong(read_book, "4\n\nx = -", 1)
        self.wrong(read_book, "\n4\nx = -", 0)
        self.wrong(read_book, DUST_TEXT + "\n", 3)
        self.wrong(read_book, "4\nx = -\n\n\n", 2)

    def test_names_are_looked_at_last(self):
        self.wrong(read_book, "4\nx = 0 w\ny = 9 x", 2)
        self.wrong(read_book, "4\nx = 0 w\ny = 0 x", 3)


class TestReadSet(Case):
    def test_base(self):
        for text in ("", "1", "11", "0", "02", "a", " 4", "4 ", "-4", "-", "10000000000"):
            self.wrong(read_set, text, 0)
            self.wrong(read_set, text + "\n0 0 0 0", 0)
        for base in range(2, 11):
            self.assertEqual(read_set(str(base)), empty(base))

    def test_lines(self):
        for line in (
            "", " ", "0", "0 0", "0 0 0 0", "0  0 0", " 0 0 0", "0 0 0 ", "0 0 0  ", "0 0 x", "0 0 None", "0,0,0",
            "00 0 0",
            "01 0 0", "0 0 -0", "-1 0 0", "0 0 --", "0 0 1234567890", "0 0 0000000000", "0 0 +", "a b c", "0 0 1.",
        ):
            self.wrong(read_set, "3\n" + line, 1)
            self.wrong(read_set, "3\n0 0 0\n" + line, 2)
            self.wrong(read_set, "3\n- 0 1\n" + line + "\n- - 0\nx", 2)

    def test_empty_lines(self):
        self.wrong(read_set, "3\n", 1)
        self.wrong(read_set, "3\n0 0 0\n", 2)
        self.wrong(read_set, "\n3\n0 0 0", 0)
        self.wrong(read_set, "3\n\n0 0 0", 1)

    def test_rows_are_looked_at_last(self):
        for lines in (["1 1 1"], ["123456789 0 0"], ["- - -"], ["1 1 1", "0 0 0"], ["- 1 -", "- 0 -"],
                      ["0 - -", "1 - -"],
                      ["0 0 -"], ["0 - 1", "- 1 -", "- - 0"]):
            self.wrong(read_set, "\n".join(["3"] + lines), len(lines) + 1)
        # ends that do not agree, rows that are one, a row that is not led to, numbers not as they come
        self.wrong(read_set, "2\n0 1\n1 -", 3)
        self.wrong(read_set, "2\n1 1\n2 2\n0 0", 4)
        self.wrong(read_set, "2\n- 2\n- 1\n2 -", 4)

    def test_at_most_two_hundred_rows(self):
        for size in (199, 200, 201, 202):
            text = show_set(circle(10, size, (1,), (2, 3)))
            if size <= 200:
                self.assertTrue(is_set(read_set(text)))
            else:
                self.wrong(read_set, text, size + 1)
                self.wrong(read_set, text + "\n- - -", size + 1)
                self.wrong(read_set, text.replace("\n- ", "\n-- ", 1), 1)

    def test_nine_figures(self):
        self.wrong(read_set, "2\n999999999 0", 2)
        self.wrong(read_set, "2\n9999999990 0", 1)


if __name__ == "__main__":
    unittest.main()
