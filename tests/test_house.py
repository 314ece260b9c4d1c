import copy
import random
import unittest

from dustwithin.books import point_by
from dustwithin.errors import Full, Held, NoForm, NoMark, NoName, Ring, TooMany
from dustwithin.house import House
from dustwithin.joins import joined, met, stretch, turned
from dustwithin.limits import kernel, limits
from dustwithin.mixes import mixed
from dustwithin.points import is_in, least
from dustwithin.sets import set_of
from tests.things import DUST, HALVES, alone, anything, empty, fraction_worth, fractions_to, some_books, whole, worth

DUST_FORM = ("book", DUST, "x")
OTHER_FORM = ("book", DUST, "y")
NOTHING = ("book", (4, {"n": ()}), "n")
ALL = ("book", (4, {"n": ((0, "n"), (1, "n"), (2, "n"), (3, "n"))}), "n")
NAMES = [name + "n" for name in "abcdefghijklmnop"]


def all_of(base):
    return ("book", (base, {"n": tuple((digit, "n") for digit in range(base))}), "n")


def nothing_of(base):
    return ("book", (base, {"n": ()}), "n")


def ring_of(size):
    """A fraction whose writing to base 10 is a ring of so many digits."""
    return (1, 10 ** size - 1)


def a_house():
    """dust; back, dust turned; both; half of both; sums of dust and back; the limits of half."""
    house = House(4)
    house.tell("dust", DUST_FORM)
    house.tell("back", ("turned", "dust"))
    house.tell("both", ("joined", "dust", "back"))
    house.tell("half", ("cut", "both", (0, 1), (1, 2)))
    house.tell("sums", ("mixed", ("dust", "back"), (1, 1), 0, 2))
    house.tell("ends", ("limits", "half"))
    return house


def state(house):
    return [(name, house.form(name), house.value(name), house.hangers(name)) for name in house.names()]


class Case(unittest.TestCase):
    def refused(self, error, house, call, *things, **fields):
        """The call is refused so, and changes nothing."""
        ahead = state(house)
        with self.assertRaises(error) as caught:
            call(*things)
        for field, expected in fields.items():
            self.assertEqual(getattr(caught.exception, field), expected)
        self.assertEqual(state(house), ahead)
        return caught.exception


class TestTell(Case):
    def test_at_first_none(self):
        house = House(3)
        self.assertEqual((house.names(), house.groups()), ([], []))

    def test_each_form(self):
        house = a_house()
        dust = set_of(DUST, "x")
        self.assertEqual(house.value("dust"), dust)
        self.assertEqual(house.value("back"), turned(dust))
        self.assertEqual(house.value("both"), joined(dust, turned(dust)))
        half = met(joined(dust, turned(dust)), stretch(4, (0, 1), (1, 2)))
        self.assertEqual(house.value("half"), half)
        self.assertEqual(house.value("sums"), mixed((dust, turned(dust)), (1, 1), 0, 2))
        self.assertEqual(house.value("ends"), limits(half))
        self.assertEqual(house.tell("meet", ("met", "dust", "both")), ["meet"])
        self.assertEqual(house.value("meet"), dust)
        self.assertEqual(house.tell("rest", ("kernel", "both")), ["rest"])
        self.assertEqual(house.value("rest"), kernel(joined(dust, turned(dust))))
        self.assertEqual(house.tell("copy", ("mixed", ("dust",), (-1,), 1, 1)), ["copy"])
        self.assertEqual(house.value("copy"), turned(dust))
        three = ("mixed", ("dust", "dust", "back"), (1, 1, -1), 1, 3)
        self.assertEqual(house.tell("three", three), ["three"])
        self.assertEqual(house.value("three"), mixed((dust, dust, turned(dust)), (1, 1, -1), 1, 3))
        for name, form in (("dust", DUST_FORM), ("three", three), ("half", ("cut", "both", (0, 1), (1, 2)))):
            self.assertEqual(house.form(name), form)

    def test_limits_and_kernel_are_unlike(self):
        house = House(2)
        house.tell("h", ("book", HALVES, "u"))
        house.tell("l", ("limits", "h"))
        house.tell("k", ("kernel", "h"))
        self.assertEqual(house.value("l"), alone(2, (0, 1)))
        self.assertEqual(house.value("k"), empty(2))

    def test_new_names_are_told_and_those_that_turn(self):
        house = House(4)
        self.assertEqual(house.tell("b", DUST_FORM), ["b"])
        self.assertEqual(house.tell("a", ("turned", "b")), ["a"])
        self.assertEqual(house.tell("c", ("joined", "b", "a")), ["c"])
        self.assertEqual(house.tell("d", ("met", "c", "c")), ["d"])
        self.assertEqual(house.tell("e", NOTHING), ["e"])
        # dust anew, by a book of other names: none turns
        anew = ("book", (4, {"p": ((1, "q"), (2, "r")), "q": ((1, "q"), (2, "r")), "r": ((0, "p"),)}), "q")
        self.assertEqual(house.tell("b", anew), [])
        self.assertEqual(house.form("b"), anew)
        # near and far
        self.assertEqual(house.tell("b", OTHER_FORM), ["a", "b", "c", "d"])
        self.assertEqual(house.tell("b", NOTHING), ["a", "b", "c", "d"])
        self.assertEqual(house.tell("e", ("kernel", "c")), [])
        self.assertEqual(house.tell("b", ALL), ["a", "b", "c", "d", "e"])

    def test_those_whose_sets_stay_are_not_told(self):
        house = House(4)
        house.tell("a", DUST_FORM)
        house.tell("all", ALL)
        house.tell("j", ("joined", "a", "all"))
        house.tell("m", ("met", "a", "all"))
        house.tell("k", ("turned", "j"))
        self.assertEqual(house.tell("a", OTHER_FORM), ["a", "m"])
        self.assertEqual(house.tell("all", ("joined", "a", "a")), ["all", "j", "k"])
        self.assertEqual(house.hangers("a"), ["all", "j", "k", "m"])

    def test_long_ways_and_short_ways_to_a_name(self):
        # z hangs on a by one step and by four; told whichever way round
        house = House(4)
        house.tell("a", DUST_FORM)
        house.tell("b", ("turned", "a"))
        house.tell("c", ("turned", "b"))
        house.tell("y", ("turned", "c"))
        house.tell("z", ("joined", "a", "y"))
        house.tell("x", ("met", "z", "b"))
        house.tell("a", OTHER_FORM)
        other = set_of(DUST, "y")
        self.assertEqual(house.value("z"), joined(other, turned(other)))
        self.assertEqual(house.value("x"), turned(other))
        house.tell("z", ("met", "a", "y"))
        self.assertEqual(house.value("x"), met(house.value("z"), house.value("b")))

    def test_forms_and_bases(self):
        for base in range(2, 11):
            house = House(base)
            house.tell("a", all_of(base))
            self.assertEqual(house.value("a"), whole(base))
            house.tell("p", ("cut", "a", (1, 3), (1, 3)))
            self.assertEqual(house.value("p"), alone(base, (1, 3)))

    def test_a_new_house_in_another_order_tells_the_same(self):
        house = a_house()
        for seed in range(5):
            other = House(4)
            names = house.names()
            random.Random(seed).shuffle(names)
            # first anything, then, from the ground, what is right
            for name in names:
                other.tell(name, NOTHING)
            while state(other) != state(house):
                for name in names:
                    other.tell(name, house.form(name))
            self.assertEqual(other.groups(), house.groups())


class TestNoForm(Case):
    def setUp(self):
        self.house = a_house()

    def wrong(self, name, form, house=None):
        house = house or self.house
        with self.subTest(name=name, form=form):
            self.refused(NoForm, house, house.tell, name, form)

    def test_anything(self):
        for thing in anything():
            self.wrong("n", thing)
            if thing not in ("a", "ab"):
                self.wrong(thing, DUST_FORM)
                self.wrong(thing, ("turned", "dust"))
            self.wrong(thing, thing)
            self.wrong("n", (thing, "dust"))
            self.wrong("n", ("turned", "dust", thing))
            self.wrong("n", (thing, "dust", "dust"))
            for word in ("book", "joined", "met", "turned", "cut", "mixed", "limits", "kernel"):
                self.wrong("n", (word, [thing]))
                self.wrong("n", (word, (thing,)))
                self.wrong("n", (word,))
                self.wrong("n", [word, "dust"])

    def test_names(self):
        for name in ("", "abcdefghi", "Dust", "a1", "a b", "a ", "\u00e4", "a\n", 1, True, None, ("a",), ["a"]):
            self.wrong(name, DUST_FORM)
            for form in (("joined", name, "dust"), ("joined", "dust", name), ("met", name, "dust"),
                         ("met", "dust", name), ("turned", name), ("cut", name, (0, 1), (1, 1)),
                         ("limits", name), ("kernel", name), ("mixed", (name,), (1,), 0, 1),
                         ("mixed", ("dust", name), (1, 1), 0, 1)):
                self.wrong("n", form)

    def test_books(self):
        self.wrong("n", ("book", DUST))
        self.wrong("n", ("book", DUST, "z"))
        self.wrong("n", ("book", DUST, "x", "y"))
        self.wrong("n", ("book", HALVES, "u"))
        self.wrong("n", ("book", (4, {}), "x"))
        self.wrong("n", ("book", (4, {"x": ((4, "x"),)}), "x"))
        self.wrong("n", ("book", (4, {"x": ((1, "z"),)}), "x"))
        self.wrong("n", ("book", (4, {"x": [(1, "x")]}), "x"))
        for thing in anything():
            self.wrong("n", ("book", thing, "x"))
            self.wrong("n", ("book", DUST, thing))

    def test_words_and_how_many_parts(self):
        for form in (("joined", "dust"), ("joined", "dust", "back", "dust"), ("met", "dust"), ("turned",),
                     ("turned", "dust", "dust"), ("limits", "dust", "dust"), ("kernel",), ("cut", "dust", (0, 1)),
                     ("cut", "dust", (0, 1), (1, 1), (1, 1)), ("Joined", "dust", "dust"), ("copy", "dust"),
                     ("join", "dust", "dust"), ("", "dust"), (), ("limit", "dust"),
                     ("mixed", ("dust",), (1,), 0), ("mixed", ("dust",), (1,), 0, 1, 1), ("mixed", "dust", 1, 0, 1)):
            self.wrong("n", form)
            self.wrong("n", list(form))

    def test_stretches(self):
        for low, high in (((1, 2), (1, 3)), ((1, 1), (0, 1)), ((1, 2), (499, 999)), ((2, 4), (1, 1)), ((0, 1), (2, 4)),
                          ((0, 1), (3, 2)), ((-1, 2), (1, 1)), ([0, 1], (1, 1)), ((0, 1), [1, 1]), (0, 1), (None, None),
                          ((0, True), (1, 1)), ((False, 1), (1, 1))):
            self.wrong("n", ("cut", "dust", low, high))
        self.assertEqual(self.house.tell("n", ("cut", "dust", (1, 2), (1, 2))), ["n"])

    def test_mixed_as_many_as_the_base_lets(self):
        for base in range(2, 11):
            house = House(base)
            house.tell("p", ("book", (base, {"n": ((0, "n"),)}), "n"))
            for many in range(1, 5):
                form = ("mixed", ("p",) * many, (1,) * many, 0, 1)
                if many <= (3 if base <= 4 else 2):
                    self.assertEqual(house.tell("n", form), ["n"] if many == 1 else [])
                else:
                    self.wrong("n", form, house)
            self.wrong("n", ("mixed", (), (), 0, 1), house)

    def test_mixed_parts(self):
        for form in (("mixed", ("dust",), (1, 1), 0, 1), ("mixed", ("dust", "dust"), (1,), 0, 1),
                     ("mixed", ["dust"], (1,), 0, 1), ("mixed", ("dust",), [1], 0, 1), ("mixed", "a", (1,), 0, 1),
                     ("mixed", {"dust": 1}, (1,), 0, 1), ("mixed", ("dust",), {1: 1}, 0, 1)):
            self.wrong("n", form)
        for weight in (-10, 10, True, None, "1", (1,)):
            self.wrong("n", ("mixed", ("dust",), (weight,), 0, 1))
            self.wrong("n", ("mixed", ("dust", "dust"), (1, weight), 0, 1))
            self.wrong("n", ("mixed", ("dust",), (1,), weight, 1))
        for divisor in (-9, -1, 0, 10, True, None, "1", (1,)):
            self.wrong("n", ("mixed", ("dust",), (1,), 0, divisor))
        for weight in (-9, 0, 9):
            for divisor in (1, 9):
                self.house.tell("n", ("mixed", ("dust",), (weight,), weight, divisor))

    def test_goes_ahead_of_the_others(self):
        full = House(4)
        for name in NAMES[:12]:
            full.tell(name, DUST_FORM)
        self.wrong("N", ("turned", "nowhere"), full)
        self.wrong("an", ("mixed", ("nowhere", "an"), (1, 10), 0, 1), full)
        self.wrong("an", ("cut", "an", (1, 1), (0, 1)), full)
        self.wrong("new", ("book", DUST, "nowhere"), full)


class TestRefusals(Case):
    def test_no_name(self):
        house = a_house()
        for form in (("joined", "dust", "no"), ("joined", "no", "dust"), ("met", "no", "no"), ("turned", "no"),
                     ("cut", "no", (0, 1), (1, 1)), ("limits", "no"), ("kernel", "no"),
                     ("mixed", ("dust", "no"), (1, 1), 0, 1)):
            self.refused(NoName, house, house.tell, "n", form)
            self.refused(NoName, house, house.tell, "dust", form)
        # the told one needn't stand there; other names that don't go first
        self.refused(Ring, house, house.tell, "no", ("turned", "no"), name="no")
        self.refused(NoName, house, house.tell, "n", ("joined", "n", "no"))
        self.refused(NoName, house, house.tell, "dust", ("joined", "both", "no"))

    def test_ring(self):
        house = a_house()
        self.refused(Ring, house, house.tell, "dust", ("turned", "dust"), name="dust")
        self.refused(Ring, house, house.tell, "dust", ("turned", "ends"), name="ends")
        self.refused(Ring, house, house.tell, "both", ("joined", "dust", "half"), name="half")
        self.refused(Ring, house, house.tell, "both", ("joined", "half", "ends"), name="half")
        self.refused(Ring, house, house.tell, "both", ("joined", "ends", "half"), name="ends")
        self.refused(Ring, house, house.tell, "back", ("mixed", ("dust", "both", "back"), (1, 1, 1), 0, 1), name="both")
        self.refused(Ring, house, house.tell, "back", ("mixed", ("dust", "back", "both"), (1, 1, 1), 0, 1), name="back")
        self.refused(Ring, house, house.tell, "half", ("cut", "ends", (0, 1), (1, 1)), name="ends")
        for word in ("limits", "kernel", "turned"):
            self.refused(Ring, house, house.tell, "back", (word, "sums"), name="sums")
        # beside, no ring
        self.assertEqual(house.tell("half", ("joined", "sums", "back")), ["ends", "half"])

    def test_full(self):
        house = House(4)
        for name in NAMES[:12]:
            self.assertEqual(house.tell(name, DUST_FORM), [name])
        self.refused(Full, house, house.tell, "new", DUST_FORM, most=12)
        self.refused(Full, house, house.tell, "new", ("turned", "an"), most=12)
        # those that are there are told anew; rings and missing names go first
        self.assertEqual(house.tell("an", OTHER_FORM), ["an"])
        self.refused(NoName, house, house.tell, "new", ("turned", "no"))
        self.refused(Ring, house, house.tell, "new", ("joined", "an", "new"), name="new")
        house.drop("bn")
        self.assertEqual(house.tell("new", DUST_FORM), ["new"])

    def test_full_ahead_of_too_many(self):
        house = House(10)
        house.tell("all", all_of(10))
        for name in NAMES[:11]:
            house.tell(name, all_of(10))
        self.refused(Full, house, house.tell, "new", ("cut", "all", ring_of(250), (1, 1)), most=12)

    def test_two_hundred_rows(self):
        house = House(10)
        house.tell("all", all_of(10))
        sizes = {}
        for size in range(190, 205):
            value = stretch(10, ring_of(size), (1, 1))
            sizes[len(value[1])] = size
            if len(value[1]) <= 200:
                house.tell("n", ("cut", "all", ring_of(size), (1, 1)))
                self.assertEqual(house.value("n"), value)
            else:
                self.refused(TooMany, house, house.tell, "n", ("cut", "all", ring_of(size), (1, 1)), most=200)
                self.refused(TooMany, house, house.tell, "m", ("cut", "all", ring_of(size), (1, 1)), most=200)
        self.assertTrue(200 in sizes and 201 in sizes)

    def test_two_hundred_rows_near_and_far(self):
        house = House(10)
        house.tell("all", all_of(10))
        house.tell("one", nothing_of(10))
        house.tell("other", ("cut", "all", ring_of(121), ring_of(121)))
        house.tell("some", ("cut", "all", ring_of(120), ring_of(120)))
        house.tell("near", ("met", "one", "some"))
        house.tell("far", ("mixed", ("near",), (1,), 0, 2))
        house.tell("farther", ("turned", "far"))
        house.tell("farthest", ("joined", "farther", "other"))
        self.refused(TooMany, house, house.tell, "one", ("joined", "all", "all"), most=200)
        self.assertEqual(house.tell("farthest", ("turned", "farther")), ["farthest"])
        self.assertEqual(house.tell("one", ("joined", "all", "all")), ["far", "farther", "farthest", "near", "one"])
        self.refused(TooMany, house, house.tell, "farthest", ("joined", "farther", "other"), most=200)

    def test_states_and_lots(self):
        house = House(10)
        house.tell("all", all_of(10))
        house.tell("p", ("cut", "all", ring_of(46), ring_of(46)))
        house.tell("q", ("cut", "all", ring_of(47), ring_of(47)))
        self.refused(TooMany, house, house.tell, "n", ("mixed", ("p", "q"), (1, 1), 0, 2), most=2000)
        house.tell("p", ("cut", "all", ring_of(23), ring_of(23)))
        house.tell("q", ("cut", "all", ring_of(25), ring_of(25)))
        self.refused(TooMany, house, house.tell, "n", ("mixed", ("p", "q"), (1, 1), 0, 2), most=500)
        house.tell("q", nothing_of(10))
        house.tell("n", ("mixed", ("p", "q"), (1, 1), 0, 2))
        house.tell("far", ("turned", "n"))
        self.refused(TooMany, house, house.tell, "q", ("cut", "all", ring_of(25), ring_of(25)), most=500)
        self.refused(TooMany, house, house.tell, "q", ("cut", "all", ring_of(199), ring_of(199)), most=2000)
        self.refused(TooMany, house, house.tell, "q", ("cut", "all", ring_of(17), ring_of(17)), most=200)
        self.assertEqual(house.tell("q", ("cut", "all", ring_of(7), ring_of(7))), ["far", "n", "q"])


class TestDrop(Case):
    def test_dropped(self):
        house = a_house()
        self.assertEqual(house.drop("ends"), ["ends"])
        self.assertEqual(house.names(), ["back", "both", "dust", "half", "sums"])
        self.assertEqual(house.drop("half"), ["half"])
        self.assertEqual(house.drop("both"), ["both"])
        self.assertEqual(house.drop("sums"), ["sums"])
        self.assertEqual(house.drop("back"), ["back"])
        self.assertEqual(house.drop("dust"), ["dust"])
        self.assertEqual(house.names(), [])
        house.tell("e", NOTHING)
        self.assertEqual(house.drop("e"), ["e"])

    def test_held_by_the_first(self):
        house = a_house()
        self.refused(Held, house, house.drop, "dust", name="back")
        self.refused(Held, house, house.drop, "back", name="both")
        self.refused(Held, house, house.drop, "both", name="half")
        self.refused(Held, house, house.drop, "half", name="ends")
        house.tell("zz", ("kernel", "sums"))
        house.tell("aa", ("limits", "sums"))
        self.refused(Held, house, house.drop, "sums", name="aa")
        house.drop("aa")
        self.refused(Held, house, house.drop, "sums", name="zz")

    def test_no_name(self):
        house = a_house()
        for thing in anything() + ["no", "Dust", "dust ", ("dust",), ["dust"]]:
            self.refused(NoName, house, house.drop, thing)


class TestAsked(Case):
    def test_no_name_of_anything(self):
        house = a_house()
        for thing in anything() + ["no", ("dust",)]:
            for call in (house.value, house.form, house.hangers):
                self.refused(NoName, house, call, thing)
            self.refused(NoName, house, house.why, thing, (1, 2))

    def test_hangers(self):
        house = a_house()
        self.assertEqual(house.hangers("dust"), ["back", "both", "ends", "half", "sums"])
        self.assertEqual(house.hangers("back"), ["both", "ends", "half", "sums"])
        self.assertEqual(house.hangers("both"), ["ends", "half"])
        self.assertEqual(house.hangers("half"), ["ends"])
        self.assertEqual(house.hangers("ends"), [])
        self.assertEqual(house.hangers("sums"), [])
        house.tell("both", DUST_FORM)
        self.assertEqual(house.hangers("dust"), ["back", "sums"])
        self.assertEqual(house.hangers("both"), ["ends", "half"])

    def test_groups(self):
        house = House(4)
        house.tell("d", DUST_FORM)
        self.assertEqual(house.groups(), [["d"]])
        house.tell("b", NOTHING)
        house.tell("c", ("joined", "d", "b"))
        house.tell("a", ("met", "d", "b"))
        house.tell("e", ALL)
        self.assertEqual(house.groups(), [["a", "b"], ["c", "d"], ["e"]])
        house.tell("b", ALL)
        self.assertEqual(house.groups(), [["a", "d"], ["b", "c", "e"]])
        house.drop("e")
        self.assertEqual(house.groups(), [["a", "d"], ["b", "c"]])

    def test_what_is_told_is_new(self):
        house = a_house()
        ahead = copy.deepcopy(state(house))
        for told in (house.names(), house.hangers("dust"), house.groups(), house.tell("dust", DUST_FORM)):
            told.clear()
            told.append("something")
        house.groups()[0].append("something")
        _, (_, rows), _ = house.form("dust")
        rows["x"] = ()
        rows["new"] = ((0, "new"),)
        self.assertEqual(state(house), ahead)
        house.form("dust")[1][1].clear()
        self.assertEqual(state(house), ahead)

    def test_a_book_may_be_changed_behind_the_call(self):
        house = House(4)
        book = copy.deepcopy(DUST)
        house.tell("dust", ("book", book, "x"))
        house.mark()
        house.why("dust", (1, 3))
        book[1]["x"] = ()
        del book[1]["y"]
        self.assertEqual(house.form("dust"), DUST_FORM)
        self.assertEqual(house.value("dust"), set_of(DUST, "x"))
        house.tell("n", ("turned", "dust"))
        self.assertEqual(house.value("n"), turned(set_of(DUST, "x")))
        house.back(0)
        self.assertEqual(house.form("dust"), DUST_FORM)
        self.assertEqual(house.why("dust", (1, 3))[0], "book")

    def test_what_is_handed_in_stays(self):
        house = a_house()
        for form in [house.form(name) for name in house.names()]:
            kept = copy.deepcopy(form)
            house.tell("new", form)
            self.assertEqual(form, kept)
            house.drop("new")
            self.assertEqual(form, kept)


class TestWhy(Case):
    def holds(self, house, name, fraction):
        """Whether it is shown why a fraction is a point of a name, down to ways in told books."""
        told = house.why(name, fraction)
        self.assertIs(told is not None, is_in(house.value(name), fraction))
        if told is None:
            return
        word, things = told
        form = house.form(name)
        self.assertEqual(word, form[0])
        self.assertIs(type(told), tuple)
        self.assertIs(type(things), tuple)
        if word == "book":
            stem, ring = things
            self.assertEqual(point_by(form[1], form[2], stem, ring), fraction)
            return
        if word == "mixed":
            names = list(form[1])
            total = sum(weight * worth(point) for weight, (_, point) in zip(form[2], things))
            self.assertEqual((total + form[3]) / form[4], worth(fraction))
        elif word == "joined":
            names = [things[0][0]]
            self.assertIn(names[0], form[1:])
            self.assertEqual(things[0][1], fraction)
        else:
            names = [form[1]] if word == "cut" else list(form[1:])
            expected = fraction_worth(1 - worth(fraction)) if word == "turned" else fraction
            self.assertTrue(all(point == expected for _, point in things))
        self.assertEqual([own for own, _ in things], names)
        for thing in things:
            self.assertIs(type(thing), tuple)
            self.holds(house, *thing)

    def test_each_form(self):
        house = a_house()
        house.tell("meet", ("met", "dust", "both"))
        house.tell("rest", ("kernel", "both"))
        house.tell("three", ("mixed", ("dust", "dust", "back"), (1, 1, -1), 1, 3))
        house.tell("less", ("mixed", ("both",), (-2,), 2, 3))
        for name in house.names():
            for fraction in fractions_to(9) + [least(house.value(name)), (8, 15), (7, 15), (13, 30)]:
                self.holds(house, name, fraction)

    def test_by_hand(self):
        house = a_house()
        self.assertEqual(house.why("dust", (1, 3)), ("book", ((), ((1, "x"),))))
        self.assertIsNone(house.why("dust", (1, 2)))
        self.assertEqual(house.why("back", (2, 3)), ("turned", (("dust", (1, 3)),)))
        self.assertEqual(house.why("both", (1, 3)), ("joined", (("dust", (1, 3)),)))
        self.assertEqual(house.why("both", (2, 3)), ("joined", (("back", (2, 3)),)))
        self.assertEqual(house.why("half", (1, 3)), ("cut", (("both", (1, 3)),)))
        self.assertIsNone(house.why("half", (2, 3)))
        house.tell("less", ("mixed", ("dust", "dust"), (-2, 0), 2, 1))
        self.assertEqual(house.why("less", (14, 15))[1][0], ("dust", (8, 15)))
        self.assertEqual(house.why("ends", (1, 3)), ("limits", (("half", (1, 3)),)))
        house.tell("meet", ("met", "both", "dust"))
        self.assertEqual(house.why("meet", (1, 3)), ("met", (("both", (1, 3)), ("dust", (1, 3)))))
        house.tell("rest", ("kernel", "dust"))
        self.assertEqual(house.why("rest", (1, 3)), ("kernel", (("dust", (1, 3)),)))
        house.tell("dust", NOTHING)
        for name in house.names():
            self.assertIsNone(house.why(name, (1, 3)))

    def test_of_many_books(self):
        for book, name in some_books(24, bases=(2, 3, 4), most_pairs=3):
            house = House(book[0])
            house.tell("a", ("book", book, name))
            house.tell("b", ("book", book, sorted(book[1])[-1]))
            try:
                house.tell("c", ("mixed", ("a", "b"), (1, -1), 1, 2))
            except TooMany:
                house.tell("c", ("mixed", ("a",), (-2,), 2, 1))
            house.tell("d", ("joined", "c", "a"))
            house.tell("e", ("limits", "d"))
            for own in house.names():
                for fraction in fractions_to(5):
                    self.holds(house, own, fraction)


class TestMarks(Case):
    def test_numbers_from_0(self):
        house = a_house()
        self.assertEqual([house.mark() for _ in range(12)], list(range(12)))
        self.refused(Full, house, house.mark, most=12)
        house.back(4)
        self.assertEqual(house.mark(), 5)

    def test_back(self):
        house = House(4)
        self.assertEqual(house.mark(), 0)
        house.tell("a", DUST_FORM)
        house.tell("b", ("turned", "a"))
        house.tell("c", ALL)
        ahead = state(house)
        self.assertEqual(house.mark(), 1)
        house.tell("a", OTHER_FORM)
        house.drop("c")
        house.tell("d", NOTHING)
        later = state(house)
        self.assertEqual(house.mark(), 2)
        self.assertEqual(house.back(2), [])
        # a and b turn, c comes, d goes
        self.assertEqual(house.back(1), ["a", "b", "c", "d"])
        self.assertEqual(state(house), ahead)
        self.refused(NoMark, house, house.back, 2)
        self.assertEqual(house.back(1), [])
        house.tell("a", OTHER_FORM)
        house.drop("c")
        house.tell("d", NOTHING)
        self.assertEqual(state(house), later)
        self.assertEqual(house.back(1), ["a", "b", "c", "d"])
        self.assertEqual(house.back(0), ["a", "b", "c"])
        self.assertEqual(house.names(), [])
        self.refused(NoMark, house, house.back, 1)
        self.assertEqual(house.back(0), [])
        self.assertEqual(house.mark(), 1)

    def test_forms_turn_back_with_sets_that_stay(self):
        house = House(4)
        house.tell("a", DUST_FORM)
        house.tell("b", ("joined", "a", "a"))
        house.mark()
        house.tell("b", DUST_FORM)
        self.assertEqual(house.drop("a"), ["a"])
        self.assertEqual(house.back(0), ["a"])
        self.assertEqual(house.form("b"), ("joined", "a", "a"))
        self.assertEqual(house.tell("a", NOTHING), ["a", "b"])

    def test_no_mark_of_anything(self):
        house = a_house()
        self.refused(NoMark, house, house.back, 0)
        house.mark()
        house.mark()
        for thing in anything() + [-1, 2, 12, 10 ** 30, (0,), [0], "0", None, True, False]:
            if type(thing) is not int or thing not in (0, 1):
                self.refused(NoMark, house, house.back, thing)
        self.assertEqual(house.back(1), [])

    def test_refusals_leave_marks(self):
        house = a_house()
        house.mark()
        house.tell("dust", OTHER_FORM)
        for call, things in ((house.tell, ("dust", ("turned", "dust"))), (house.drop, ("dust",)), (house.back, (1,))):
            with self.assertRaises(ValueError):
                call(*things)
        self.assertEqual(house.mark(), 1)
        self.assertEqual(house.back(0), ["back", "both", "dust", "ends", "half", "sums"])


class TestHistories(Case):
    def test_houses_against_sets_made_from_the_ground(self):
        for seed in range(12):
            chance = random.Random(seed)
            base = (2, 3, 4)[seed % 3]
            books = [("book", book, name) for book, name in some_books(30, bases=(base,), most_pairs=4)]
            house, marks = House(base), []
            for _ in range(60):
                ahead = {name: house.value(name) for name in house.names()}
                forms = {name: house.form(name) for name in house.names()}
                told = self.some_deed(house, chance, books, marks)
                if told is not None:
                    now = {name: house.value(name) for name in house.names()}
                    unlike = [name for name in sorted({**ahead, **now}) if ahead.get(name) != now.get(name)]
                    self.assertEqual(told, unlike)
                else:
                    self.assertEqual({name: house.form(name) for name in house.names()}, forms)
                self.check(house, base)

    def some_deed(self, house, chance, books, marks):
        names = ["a", "b", "c", "d", "e"]
        deed = chance.randrange(12)
        try:
            if deed == 0:
                return house.drop(chance.choice(names))
            if deed == 1 and len(marks) < 12:
                marks.append((house.mark(), state(house)))
                self.assertEqual(marks[-1][0], len(marks) - 1)
                return []
            if deed == 2 and marks:
                number, kept = chance.choice(marks)
                told = house.back(number)
                del marks[number + 1:]
                self.assertEqual(state(house), kept)
                return told
            one, other = chance.choice(names), chance.choice(names)
            form = chance.choice(books[:10] + [
                ("joined", one, other), ("met", one, other), ("turned", one), ("limits", one), ("kernel", one),
                ("cut", one, (1, 3), (5, 6)), ("mixed", (one, other), (1, chance.randrange(-2, 3)), 0, 2),
            ])
            return house.tell(chance.choice(names), form)
        except (NoName, Ring, Held, TooMany):
            return None

    def check(self, house, base):
        made = {}

        def value(name):
            if name not in made:
                word, *parts = house.form(name)
                if word == "book":
                    made[name] = set_of(*parts)
                elif word == "cut":
                    made[name] = met(value(parts[0]), stretch(base, parts[1], parts[2]))
                elif word == "mixed":
                    made[name] = mixed(tuple(value(part) for part in parts[0]), *parts[1:])
                else:
                    functions = {"joined": joined, "met": met, "turned": turned, "limits": limits, "kernel": kernel}
                    made[name] = functions[word](*[value(part) for part in parts])
            return made[name]

        for name in house.names():
            self.assertEqual(house.value(name), value(name))
        grouped = [name for group in house.groups() for name in group]
        self.assertEqual(sorted(grouped), house.names())
        for group in house.groups():
            self.assertEqual(group, [name for name in house.names() if value(name) == value(group[0])])

    def test_houses_go_by_themselves(self):
        one, other = a_house(), a_house()
        one.mark()
        one.tell("dust", NOTHING)
        one.drop("ends")
        self.assertEqual(state(other), state(a_house()))
        self.refused(NoMark, other, other.back, 0)


if __name__ == "__main__":
    unittest.main()
