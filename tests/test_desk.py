import unittest

from dustwithin.desk import Desk
from dustwithin.errors import Full, Held, NoForm, NoName, NoRow, Ring, TooMany
from dustwithin.gaps import Gaps
from dustwithin.joins import joined, met, stretch, turned
from dustwithin.limits import how_many, kernel, limits, rank
from dustwithin.lengths import length
from dustwithin.mixes import mixed
from dustwithin.points import greatest, least, over, under
from dustwithin.sets import set_of
from dustwithin.texts import show_fraction, show_set
from tests.things import DUST, some_books

DUST_ROW = "book dust x 4 / x = 1 x, 2 y / y = 0 x"
HALVES_ROW = "book h u 2 / u = 0 u, 1 v / v = 0 v"


def desk_with(*rows):
    desk = Desk()
    for row in rows:
        desk.say(row)
    return desk


def a_desk():
    return desk_with("base 4", DUST_ROW, "turned back dust", "joined both dust back",
                     "book all n 4 / n = 0 n, 1 n, 2 n, 3 n",
                     "book none n 4 / n = -", "cut part all 1/3 1/2")


def state(desk):
    if desk.house is None:
        return None
    names = desk.house.names()
    return [(name, desk.house.form(name), desk.house.value(name)) for name in names] + [desk.say("groups")]


class Case(unittest.TestCase):
    def refused(self, error, desk, row, **fields):
        with self.subTest(row=row):
            ahead = state(desk)
            with self.assertRaises(error) as caught:
                desk.say(row)
            for field, expected in fields.items():
                self.assertEqual(getattr(caught.exception, field), expected)
            self.assertEqual(state(desk), ahead)


class TestTelling(Case):
    def test_base(self):
        for base in range(2, 11):
            self.assertEqual(Desk().say(f"base {base}"), "ok")

    def test_base_told_again_empties_the_house(self):
        desk = a_desk()
        self.assertEqual(desk.say("base 4"), "ok")
        self.assertEqual(desk.say("groups"), "-")
        self.refused(NoName, desk, "least dust")
        self.assertEqual(desk.say(DUST_ROW), "turned dust")
        self.assertEqual(desk.say("base 2"), "ok")
        self.assertEqual(desk.say("groups"), "-")
        self.refused(NoForm, desk, DUST_ROW)
        self.assertEqual(desk.say(HALVES_ROW), "turned h")

    def test_forms(self):
        desk = a_desk()
        dust = set_of(DUST, "x")
        both = joined(dust, turned(dust))
        part = stretch(4, (1, 3), (1, 2))
        for row, form, value in (
            ("joined n dust part", ("joined", "dust", "part"), joined(dust, part)),
            ("met n both dust", ("met", "both", "dust"), dust),
            ("turned n dust", ("turned", "dust"), turned(dust)),
            ("cut n both 0/1 1/2", ("cut", "both", (0, 1), (1, 2)), met(both, stretch(4, (0, 1), (1, 2)))),
            ("limits n both", ("limits", "both"), limits(both)),
            ("kernel n both", ("kernel", "both"), kernel(both)),
            ("mixed n dust back 1 -2 3 4", ("mixed", ("dust", "back"), (1, -2), 3, 4),
             mixed((dust, turned(dust)), (1, -2), 3, 4)),
            ("mixed n back dust 9 0 -9 9", ("mixed", ("back", "dust"), (9, 0), -9, 9),
             mixed((turned(dust), dust), (9, 0), -9, 9)),
            ("copy n dust -1 1 1", ("mixed", ("dust",), (-1,), 1, 1), turned(dust)),
            ("copy n dust 1 0 3", ("mixed", ("dust",), (1,), 0, 3), mixed((dust,), (1,), 0, 3)),
            ("book n y 4 / x = 1 x, 2 y / y = 0 x", ("book", DUST, "y"), set_of(DUST, "y")),
        ):
            desk = a_desk()
            self.assertEqual(desk.say(row), "turned n")
            self.assertEqual(desk.house.form("n"), form)
            self.assertEqual(desk.house.value("n"), value)
            self.assertEqual(desk.say("value n"), show_set(value).replace("\n", " / "))

    def test_turned_names(self):
        desk = a_desk()
        self.assertEqual(desk.say("book dust y 4 / x = 1 x, 2 y / y = 0 x"), "turned back both dust")
        self.assertEqual(desk.say("book dust a 4 / a = 0 b / b = 1 b, 2 a"), "turned -")
        self.assertEqual(desk.say("joined part all all"), "turned part")
        self.assertEqual(desk.say("met part all all"), "turned -")
        self.assertEqual(desk.say("drop part"), "turned part")
        self.assertEqual(desk.say("drop both"), "turned both")
        self.assertEqual(desk.say("groups"), "all / back / dust / none")

    def test_books_by_their_texts(self):
        desk = desk_with("base 10")
        self.assertEqual(desk.say("book a b 10 / a = - / b = 9 a, 9 b"), "turned a")
        self.assertEqual(desk.house.form("a"), ("book", (10, {"a": (), "b": ((9, "a"), (9, "b"))}), "b"))
        self.assertEqual(desk.say("book abcdefgh abcdefgh 10 / abcdefgh = 0 abcdefgh"), "turned abcdefgh")
        self.assertEqual(desk.say("least abcdefgh"), "0/1")

    def test_words_of_rows_may_be_names(self):
        desk = desk_with("base 2", HALVES_ROW, "turned base h", "turned turned base", "joined book turned base")
        self.assertEqual(desk.say("in base 1/2"), "yes")
        self.assertEqual(desk.say("groups"), "base / book / h turned")
        self.assertEqual(desk.say("drop book"), "turned book")


class TestAsking(Case):
    def test_by_hand(self):
        desk = a_desk()
        for row, answer in (
            ("in dust 1/3", "yes"), ("in dust 1/2", "no"), ("in dust 0/1", "no"), ("in all 0/1", "yes"),
            ("in all 1/1", "yes"), ("in none 1/2", "no"),
            ("least dust", "1/3"), ("most dust", "8/15"), ("least back", "7/15"), ("most both", "2/3"),
            ("least none", "none"), ("most none", "none"), ("least all", "0/1"), ("most all", "1/1"),
            ("length dust", "0/1"), ("length all", "1/1"), ("length none", "0/1"), ("length part", "1/6"),
            ("near dust 1/2", "23/60 25/48"), ("near dust 1/3", "1/3 1/3"), ("near dust 0/1", "none 1/3"),
            ("near dust 1/1", "8/15 none"), ("near none 1/2", "none none"), ("near part 1/1", "1/2 none"),
            ("gaps dust 1", "23/60-25/48"), ("gaps dust 2", "23/60-25/48 83/240-73/192"),
            ("gaps all 1", "none"), ("gaps none 99", "none"), ("gaps part 9", "none"),
            ("rank dust", "0"), ("rank all", "0"), ("rank none", "0"),
            ("points dust", "endless"), ("points all", "endless"), ("points none", "0"),
            ("groups", "all / back / both / dust / none / part"),
            ("value dust", "4 / - 0 1 - / 0 - - -"), ("value none", "4"), ("value all", "4 / 0 0 0 0"),
        ):
            self.assertEqual(desk.say(row), answer, row)

    def test_points_and_gaps_that_come_to_an_end(self):
        desk = desk_with("base 2", HALVES_ROW, "limits l h", "book one n 2 / n = 1 n", "joined two l one",
                         "turned back h", "joined ends h back")
        self.assertEqual(desk.say("rank h"), "2")
        self.assertEqual(desk.say("rank l"), "1")
        self.assertEqual(desk.say("points l"), "1")
        self.assertEqual(desk.say("points two"), "2")
        self.assertEqual(desk.say("gaps two 1"), "0/1-1/1")
        self.assertEqual(desk.say("gaps two 99"), "0/1-1/1")
        self.assertEqual(desk.say("gaps ends 3"), "1/4-1/2 1/2-3/4 1/8-1/4")
        self.assertEqual(len(desk.say("gaps ends 99").split(" ")), 99)

    def test_groups(self):
        desk = desk_with("base 4")
        self.assertEqual(desk.say("groups"), "-")
        desk.say(DUST_ROW)
        self.assertEqual(desk.say("groups"), "dust")
        desk.say("joined a dust dust")
        desk.say("turned b dust")
        desk.say("turned c b")
        self.assertEqual(desk.say("groups"), "a c dust / b")

    def test_numbers_of_many_figures(self):
        digits = [", ".join(f"{digit} {name}" for digit in range(10)) for name in "bcdef"]
        lines = [f"{name} = {row}" for name, row in zip("abcde", digits)] + ["f = 0 f"]
        desk = desk_with("base 10", "book p a 10 / " + " / ".join(lines))
        self.assertEqual(desk.say("points p"), "100000")
        self.assertEqual(desk.say("gaps p 2"), "0/1-1/100000 1/100000-1/50000")
        desk = desk_with("base 2", "book a n 2 / n = 0 n, 1 n")
        for name, further in zip("abcdefghijk", "bcdefghijkl"):
            self.assertEqual(desk.say(f"copy {further} {name} 1 0 8"), f"turned {further}")
        self.assertEqual(desk.say("most l"), f"1/{8 ** 11}")
        self.assertEqual(desk.say("length l"), f"1/{8 ** 11}")

    def test_as_the_functions_tell(self):
        for book, name in some_books(24):
            value = set_of(book, name)
            text = " / ".join([str(book[0])] + [
                f"{own} = " + (", ".join(f"{digit} {ahead}" for digit, ahead in row) or "-")
                for own, row in sorted(book[1].items())
            ])
            desk = desk_with(f"base {book[0]}", f"book n {name} {text}")
            shown = [show_fraction(one) if one is not None else "none" for one in (
                least(value), greatest(value), under(value, (2, 5)), over(value, (2, 5)), length(value))]
            self.assertEqual(desk.say("least n"), shown[0])
            self.assertEqual(desk.say("most n"), shown[1])
            self.assertEqual(desk.say("near n 2/5"), f"{shown[2]} {shown[3]}")
            self.assertEqual(desk.say("length n"), shown[4])
            self.assertEqual(desk.say("rank n"), str(rank(value)))
            many = how_many(value)
            self.assertEqual(desk.say("points n"), "endless" if many is None else str(many))
            teller = Gaps(value)
            gaps = [gap for gap in [teller.more() for _ in range(5)] if gap is not None]
            expected = " ".join(f"{show_fraction(low)}-{show_fraction(high)}" for low, high in gaps)
            self.assertEqual(desk.say("gaps n 5"), expected or "none")


class TestNoRow(Case):
    def test_ahead_of_the_first_base(self):
        for row in (DUST_ROW, "groups", "least dust", "drop dust", "turned a b", "in a 1/2", "base 11", "base",
                    "base 4 ", ""):
            desk = Desk()
            self.refused(NoRow, desk, row)
            self.assertEqual(desk.say("base 2"), "ok")

    def test_words_otherwise(self):
        desk = a_desk()
        for row in ("", " ", "say", "Base 4", "Groups", "group", "base", "copies n dust 1 0 1", "/", "-", "in", "book"):
            self.refused(NoRow, desk, row)

    def test_words_left_out_put_in_and_blanks(self):
        desk = a_desk()
        for row in ("base 4", DUST_ROW, "joined n dust back", "met n dust back", "turned n dust", "cut n dust 0/1 1/2",
                    "limits n dust", "kernel n dust", "mixed n dust back 1 1 0 2", "copy n dust 1 0 2", "drop part",
                    "in dust 1/3", "least dust", "most dust", "length dust", "near dust 1/2", "gaps dust 3",
                    "rank dust", "points dust", "groups", "value dust"):
            words = row.split(" ")
            for at in range(len(words) + 1):
                self.refused(NoRow, desk, " ".join(words[:at] + [""] + words[at:]))
            for at in range(min(len(words), 4)):
                self.refused(NoRow, desk, " ".join(words[:at] + words[at + 1:]))
            for more in ("dust", "1", "1/2", "x"):
                self.refused(NoRow, desk, " ".join(words + [more]))
            self.refused(NoRow, desk, row.replace(" ", "\t", 1) + "\t" * (" " not in row))
            self.refused(NoRow, desk, row.upper())
            self.refused(NoRow, desk, row + "\n")

    def test_names(self):
        desk = a_desk()
        for name in ("abcdefghi", "Dust", "a1", "-", "/", "1", "\u00e4", "a,", "1/2"):
            for row in (f"book {name} x 4 / x = -", f"book n {name} 4 / x = -", f"joined {name} dust dust",
                        f"joined n {name} dust", f"joined n dust {name}", f"met n dust {name}", f"turned {name} dust",
                        f"turned n {name}", f"cut n {name} 0/1 1/2", f"limits n {name}", f"kernel {name} dust",
                        f"mixed n dust {name} 1 1 0 1", f"mixed n {name} dust 1 1 0 1", f"copy n {name} 1 0 1",
                        f"drop {name}", f"in {name} 1/2", f"least {name}", f"most {name}", f"length {name}",
                        f"near {name} 1/2", f"gaps {name} 1", f"rank {name}", f"points {name}", f"value {name}"):
                self.refused(NoRow, desk, row)

    def test_fractions(self):
        desk = a_desk()
        for fraction in ("1", "1/0", "2/4", "3/2", "01/2", "1/02", "-1/2", "0.5", "none", "1/2/3", "/", "a",
                         "1/1234567890", "0/2", "+1/2", "1/-2"):
            for row in (f"in dust {fraction}", f"near dust {fraction}", f"cut n dust {fraction} 1/1",
                        f"cut n dust 0/1 {fraction}"):
                self.refused(NoRow, desk, row)

    def test_numbers(self):
        desk = a_desk()
        for base in ("1", "11", "0", "02", "-2", "two", "4.0", "+4", "10000000000", "2/1"):
            self.refused(NoRow, desk, f"base {base}")
        for weight in ("10", "-10", "-0", "+1", "01", "-01", "1.0", "a", "--1", "-", "1-", "1000000000000", "1/2"):
            self.refused(NoRow, desk, f"mixed n dust back {weight} 1 0 1")
            self.refused(NoRow, desk, f"mixed n dust back 1 {weight} 0 1")
            self.refused(NoRow, desk, f"mixed n dust back 1 1 {weight} 1")
            self.refused(NoRow, desk, f"copy n dust {weight} 0 1")
            self.refused(NoRow, desk, f"copy n dust 1 {weight} 1")
        for divisor in ("0", "10", "-1", "-9", "01", "+1", "a", "-0"):
            self.refused(NoRow, desk, f"mixed n dust back 1 1 0 {divisor}")
            self.refused(NoRow, desk, f"copy n dust 1 0 {divisor}")
        for many in ("0", "100", "-1", "01", "1.", "all", "+1"):
            self.refused(NoRow, desk, f"gaps dust {many}")
        for many in ("1", "99"):
            desk.say(f"gaps dust {many}")
        for weight in ("-9", "-1", "0", "1", "9"):
            self.assertEqual(desk.say(f"copy new dust {weight} {weight} 9").split(" ")[0], "turned")

    def test_texts(self):
        desk = a_desk()
        for text in ("", "4", "4 / ", "4 /", "4 / x", "4 / x = ", "4 / x = 0 z", "4 / x = 4 x", "4 / x = - ",
                     "4 / x =  -",
                     " 4 / x = -", "4  / x = -", "4 /  x = -", "4 / x = - /", "4 / x = - / ", "4 / x = - / x = -",
                     "4/x = -", "4 / y = - / x = -", "11 / x = -", "x = -", "4 / x = 1 x,2 x", "4\nx = -",
                     "4 / x = -\n",
                     "4 / x = 0 x / / y = -", "/ 4 / x = -"):
            self.refused(NoRow, desk, f"book n x {text}")

    def test_goes_ahead_of_missing_names(self):
        desk = a_desk()
        for row in ("in no 2/4", "near no 1", "gaps no 0", "copy n no 1 0 0", "mixed n no no 1 1 10 1",
                    "cut n no 1/2 2/4",
                    "book n x 4 / x = 0 z", "base no"):
            self.refused(NoRow, desk, row)


class TestNoName(Case):
    def test_names_that_are_not_there(self):
        desk = a_desk()
        for row in ("drop no", "in no 1/2", "least no", "most no", "length no", "near no 1/2", "gaps no 1", "rank no",
                    "points no", "value no", "joined n no dust", "joined n dust no", "met n no no", "turned n no",
                    "cut n no 0/1 1/2", "limits n no", "kernel n no", "mixed n no dust 1 1 0 1",
                    "mixed n dust no 1 1 0 1", "copy n no 1 0 1", "joined dust no dust", "turned dust no"):
            self.refused(NoName, desk, row)

    def test_ahead_of_what_functions_refuse(self):
        desk = a_desk()
        self.refused(NoName, desk, "cut n no 1/2 1/3")
        self.refused(NoForm, desk, "cut n dust 1/2 1/3")
        self.refused(NoName, desk, "joined dust both no")
        self.refused(NoName, desk, "joined n n no")
        for at in range(6):
            desk.say(f"turned more{'abcdef'[at]} dust")
        self.refused(NoName, desk, "turned new no")
        self.refused(Full, desk, "turned new dust", most=12)

    def test_but_the_one_that_is_told(self):
        desk = a_desk()
        self.refused(Ring, desk, "turned new new", name="new")
        self.refused(Ring, desk, "joined new new dust", name="new")
        self.refused(Ring, desk, "mixed new dust new 1 1 0 1", name="new")
        self.refused(Ring, desk, "joined dust dust both", name="dust")
        # as a form it goes first that it is none
        self.refused(NoForm, desk, "cut new new 1/2 1/3")

    def test_own_names_of_books_need_not_be_there(self):
        desk = desk_with("base 4")
        self.assertEqual(desk.say("book new own 4 / own = 0 own"), "turned new")
        self.refused(NoForm, desk, "book new new 4 / own = 0 own")
        self.refused(NoForm, desk, "book new own 3 / own = 0 own")


class TestRefused(Case):
    def test_as_the_functions_refuse(self):
        desk = a_desk()
        self.refused(Held, desk, "drop dust", name="back")
        self.refused(Held, desk, "drop all", name="part")
        self.refused(Ring, desk, "turned dust both", name="both")
        desk = desk_with("base 10", "book all n 10 / n = " + ", ".join(f"{digit} n" for digit in range(10)))
        self.refused(TooMany, desk, "cut n all 1/257 1/1", most=200)
        desk.say("cut a all 1/113 1/113")
        desk.say("cut b all 1/109 1/109")
        self.refused(TooMany, desk, "mixed n a b 1 1 0 2", most=2000)
        desk.say("cut c all 1/97 1/1")
        self.refused(TooMany, desk, "length c", most=60)
        desk.say("cut a all 1/47 1/47")
        desk.say("cut b all 1/29 1/29")
        desk.say("cut d all 1/53 1/53")
        self.refused(TooMany, desk, "mixed n a d 1 1 0 2", most=500)
        for at in range(7):
            desk.say(f"turned {'efghijk'[at]} all")
        self.refused(Full, desk, "turned l all", most=12)
        self.refused(Full, desk, "mixed l a d 1 1 0 2", most=12)

    def test_base_that_is_refused_keeps_the_house(self):
        desk = a_desk()
        for row in ("base 1", "base 11", "base", "base 4 4", "base  4"):
            self.refused(NoRow, desk, row)
        self.assertEqual(desk.say("least dust"), "1/3")

    def test_desks_go_by_themselves(self):
        one, other = a_desk(), a_desk()
        ahead = state(other)
        one.say("base 2")
        one.say(HALVES_ROW)
        self.assertEqual(state(other), ahead)
        self.assertEqual(state(a_desk()), ahead)
        self.refused(NoRow, Desk(), "groups")


if __name__ == "__main__":
    unittest.main()
