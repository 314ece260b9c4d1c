import itertools
import unittest

from dustwithin.errors import DustError, NoBase, TooMany
from dustwithin.fractions import fraction_of
from dustwithin.joins import joined, stretch, turned
from dustwithin.mixes import mixed, shown
from dustwithin.points import is_in
from dustwithin.sets import is_set, set_of
from tests.things import (
    DUST, HALVES, agreeing_rings, alone, circle, empty, fraction_worth, fractions_to, lone_circle, several, some_sets,
    whole, worth,
)

FRACTIONS = fractions_to(14)
CANTOR = set_of((3, {"c": ((0, "c"), (2, "c"))}), "c")
FEW_POINTS = [
    ((1, 2),), ((0, 1), (1, 1)), ((1, 3), (3, 4)), ((0, 1), (1, 5), (1, 2)), ((1, 1),), ((0, 1),)
]
FEW = {base: [several(base, points) for points in FEW_POINTS] for base in (2, 3, 4, 10)}


def states_behind(mix, state):
    """For each digit the states that come behind a state, as 11 says it."""
    sets, weights, _, divisor = mix
    base = sets[0][0]
    low = -sum(weight for weight in weights if weight > 0)
    high = divisor + sum(-weight for weight in weights if weight < 0)
    found = [set() for _ in range(base)]
    for digits in itertools.product(range(base), repeat=len(sets)):
        cells = tuple(rows[cell][digit] for (_, rows), cell, digit in zip(sets, state, digits))
        if None in cells:
            continue
        for own in range(base):
            total = sum(weight * digit for weight, digit in zip(weights, digits))
            rest = total + base * state[-1] - own * divisor
            if low <= rest <= high:
                found[own].add(cells + (rest,))
    return found


def states_by_hand(mix):
    """All states by those behind them, by digits; the first one is one that is kept."""
    sets, _, shift, _ = mix
    todo = [(0,) * len(sets) + (shift,)]
    found = {}
    while todo:
        state = todo.pop()
        if state not in found:
            found[state] = states_behind(mix, state)
            todo += [other for part in found[state] for other in part]
    return found


def lots_by_hand(mix):
    """All lots that aren't empty, without states that end."""
    behind = states_by_hand(mix)
    going = set(behind)
    while True:
        kept = {state for state in going if any(other in going for part in behind[state] for other in part)}
        if kept == going:
            break
        going = kept
    first = (0,) * len(mix[0]) + (mix[2],)
    todo = [frozenset({first} & going)]
    found = set()
    while todo:
        lot = todo.pop()
        if lot and lot not in found:
            found.add(lot)
            parts = [[behind[state][digit] for state in lot] for digit in range(mix[0][0][0])]
            todo += [frozenset(set().union(*part) & going) for part in parts]
    return found


def dense_circle(size):
    """A set to base 4 of so many rows, each of which, but the last, leads on by one and by two."""
    rows = [(None, (at + 1) % size, (at + 2) % size, None) for at in range(size - 1)]
    return (4, tuple(rows) + ((None, 0, None, None),))


class MixCase(unittest.TestCase):
    def look_at(self, mix, fraction, right):
        """Looks at what shown tells of a fraction that comes, or doesn't."""
        sets, weights, shift, divisor = mix
        points = shown(*mix, fraction)
        if not right:
            self.assertIsNone(points, (mix, fraction))
            return
        self.assertIs(type(points), tuple)
        self.assertEqual(len(points), len(sets))
        for own, point in zip(sets, points):
            self.assertTrue(is_in(own, point), (mix, fraction, points))
        total = sum(weight * worth(point) for weight, point in zip(weights, points)) + shift
        self.assertEqual(total / divisor, worth(fraction))

    def assert_too_many(self, most, told, *things):
        with self.assertRaises(TooMany) as caught:
            told(*things)
        self.assertEqual(caught.exception.most, most)


class TestMixedOfOne(MixCase):
    def test_the_set_itself_and_all_one_less_it(self):
        for value in some_sets(60) + [whole(10), circle(10, 200, (1, 4), (1,))]:
            self.assertEqual(mixed((value,), (1,), 0, 1), value)
            self.assertEqual(mixed((value,), (-1,), 1, 1), turned(value))

    def test_copies(self):
        for value in some_sets(24):
            for weight, shift, divisor in ((1, 0, 2), (2, 0, 1), (3, -1, 1), (1, 1, 3), (-2, 1, 1), (5, -2, 7)):
                copy = mixed((value,), (weight,), shift, divisor)
                self.assertTrue(is_set(copy))
                for fraction in FRACTIONS:
                    ahead = (worth(fraction) * divisor - shift) / weight
                    right = 0 <= ahead <= 1 and is_in(value, fraction_worth(ahead))
                    self.assertIs(is_in(copy, fraction), right)

    def test_by_hand(self):
        self.assertEqual(mixed((whole(2),), (1,), 0, 2), stretch(2, (0, 1), (1, 2)))
        self.assertEqual(mixed((whole(3),), (1,), 1, 3), stretch(3, (1, 3), (2, 3)))
        self.assertEqual(mixed((whole(10),), (-9,), 9, 9), whole(10))
        self.assertEqual(mixed((alone(2, (1, 3)),), (2,), 0, 1), alone(2, (2, 3)))
        self.assertEqual(mixed((CANTOR,), (3,), 0, 1), CANTOR)
        self.assertEqual(mixed((CANTOR,), (3,), -2, 1), CANTOR)
        self.assertEqual(mixed((CANTOR,), (3,), -1, 1), several(3, ((0, 1), (1, 1))))

    def test_weights_and_shifts_at_their_bounds(self):
        for base in (2, 3, 10):
            for weight, shift, divisor in itertools.product((-9, -1, 1, 9), (-9, -1, 0, 9), (1, 9)):
                value = several(base, ((1, 10), (2, 3), (1, 1)))
                sums = [worth(point) * weight + shift for point in ((1, 10), (2, 3), (1, 1))]
                kept = [fraction_worth(one / divisor) for one in sums if 0 <= one <= divisor]
                self.assertEqual(mixed((value,), (weight,), shift, divisor), several(base, kept))

    def test_a_weight_of_nought(self):
        for value in (whole(3), CANTOR, alone(3, (1, 4))):
            for shift, divisor in itertools.product(range(-9, 10), range(1, 10)):
                kept = [fraction_worth(worth((shift, 1)) / divisor)] if 0 <= shift <= divisor else []
                self.assertEqual(mixed((value,), (0,), shift, divisor), several(3, kept))

    def test_all_that_comes_is_outside(self):
        for shift, divisor in ((9, 1), (-9, 1), (9, 7), (-2, 9)):
            self.assertEqual(mixed((whole(2),), (1,), shift, divisor), empty(2))
            self.assertEqual(mixed((whole(2), whole(2)), (1, -1), shift, divisor), empty(2))
            self.assertIsNone(shown((whole(2),), (1,), shift, divisor, (1, 2)))

    def test_borders_that_come_from_outside(self):
        self.assertEqual(mixed((whole(2),), (1,), 1, 1), alone(2, (1, 1)))
        self.assertEqual(mixed((whole(2),), (1,), -1, 1), alone(2, (0, 1)))
        self.assertEqual(mixed((whole(10),), (9,), 9, 9), alone(10, (1, 1)))
        self.assertEqual(mixed((whole(10),), (-9,), 0, 9), alone(10, (0, 1)))


class TestMixedOfMore(MixCase):
    def test_sums_and_differences_of_dust(self):
        self.assertEqual(mixed((CANTOR, CANTOR), (1, 1), 0, 2), whole(3))
        self.assertEqual(mixed((CANTOR, CANTOR), (1, -1), 0, 1), whole(3))
        self.assertEqual(mixed((CANTOR, CANTOR), (1, 1), 0, 1), whole(3))
        tens = set_of((10, {"a": tuple((digit, "a") for digit in (0, 9))}), "a")
        two = mixed((tens, tens), (1, 1), 0, 2)
        self.assertTrue(is_in(two, (1, 2)) and not is_in(two, (1, 4)) and not is_in(two, (1, 3)))

    def test_one_set_twice_stands_for_two_points(self):
        for base in (2, 3, 10):
            value = several(base, ((1, 5), (1, 2)))
            self.assertEqual(mixed((value, value), (1, -1), 0, 1), several(base, ((0, 1), (3, 10))))
            self.assertEqual(mixed((value, value), (1, 1), 0, 1), several(base, ((2, 5), (7, 10), (1, 1))))

    def test_sets_of_few_points(self):
        mixes = (((1, 1), 0, 2), ((1, -1), 0, 1), ((2, -3), 1, 2), ((-1, -1), 2, 3), ((0, 4), -1, 5), ((9, -9), 0, 9))
        for base in (2, 3, 10):
            for one, other in itertools.product(range(len(FEW_POINTS)), repeat=2):
                for weights, shift, divisor in mixes:
                    self.look_at_few(base, (one, other), weights, shift, divisor)

    def test_three_sets_of_few_points(self):
        mixes = (((1, 1, 1), 0, 3), ((1, -1, 2), 0, 2), ((-2, 0, 1), 1, 1), ((1, -1, -1), 1, 2))
        for base in (2, 3, 4):
            for chosen in itertools.product(range(4), repeat=3):
                for weights, shift, divisor in mixes:
                    self.look_at_few(base, chosen, weights, shift, divisor)

    def look_at_few(self, base, chosen, weights, shift, divisor):
        sets = tuple(FEW[base][which] for which in chosen)
        points = set()
        for things in itertools.product(*[FEW_POINTS[which] for which in chosen]):
            total = sum(weight * worth(one) for weight, one in zip(weights, things)) + shift
            if 0 <= total <= divisor:
                points.add(fraction_worth(total / divisor))
        self.assertEqual(mixed(sets, weights, shift, divisor), several(base, sorted(points)))
        for fraction in sorted(points) + [(1, 7)]:
            self.look_at((sets, weights, shift, divisor), fraction, fraction in points)

    def test_a_set_of_many_points_and_one_of_few(self):
        mixes = (((1, 1), 0, 2), ((1, -1), 0, 1), ((2, -3), 1, 2), ((-3, 2), 1, 1))
        for at, value in enumerate(some_sets(40)):
            base = value[0]
            which = at % len(FEW_POINTS)
            weights, shift, divisor = mixes[at % 4]
            sets = (value, FEW[base][which])
            both = mixed(sets, weights, shift, divisor)
            turned_round = mixed(sets[::-1], weights[::-1], shift, divisor)
            self.assertTrue(is_set(both) or len(both[1]) > 200)
            self.assertEqual(turned_round, both)
            for fraction in FRACTIONS:
                right = False
                for point in FEW_POINTS[which]:
                    ahead = (worth(fraction) * divisor - shift - weights[1] * worth(point)) / weights[0]
                    right = right or (0 <= ahead <= 1 and is_in(value, fraction_worth(ahead)))
                self.assertIs(is_in(both, fraction), right)
                self.look_at((sets, weights, shift, divisor), fraction, right)

    def test_joined_sets_mix_as_their_parts_do(self):
        for one, other, third in itertools.combinations(some_sets(7, bases=(3,)), 3):
            parts = [mixed((own, third), (1, -1), 0, 1) for own in (one, other)]
            self.assertEqual(mixed((joined(one, other), third), (1, -1), 0, 1), joined(*parts))

    def test_three_sets_in_turn(self):
        for base in (2, 3, 4):
            three = several(base, ((0, 1), (1, 2), (1, 1)))
            values = [alone(base, (1, 3)), whole(base), three, stretch(base, (1, 5), (2, 5))]
            for one, other, third in itertools.product(values, repeat=3):
                halves = mixed((one, other), (1, 1), 0, 2)
                self.assertEqual(mixed((one, other, third), (1, 1, 2), 0, 4), mixed((halves, third), (1, 1), 0, 2))

    def test_as_many_points_as_the_document_lets(self):
        value = mixed((whole(10), whole(10)), (9, -9), 0, 1)
        self.assertEqual(value, whole(10))
        value = mixed((whole(4), whole(4), whole(4)), (9, -9, 9), -9, 9)
        self.assertEqual(value, whole(4))


class TestRefused(MixCase):
    def test_empty_where_some_set_is(self):
        big, bigger = dense_circle(87), dense_circle(23)
        for sets in ((empty(4),), (empty(4), big), (big, empty(4)), (big, bigger, empty(4)), (empty(4), big, bigger)):
            weights = (0,) * len(sets)
            self.assertEqual(mixed(sets, weights, 0, 1), empty(4))
            self.assertIsNone(shown(sets, weights, 0, 1, (0, 1)))
        self.assert_too_many(2000, mixed, (big, bigger), (0, 0), 0, 1)

    def test_unlike_bases(self):
        for one, other in itertools.permutations((whole(2), empty(3), whole(4), empty(10)), 2):
            for told, things in ((mixed, ()), (shown, ((0, 1),))):
                with self.assertRaises(NoBase):
                    told((one, other), (1, 1), 0, 2, *things)
                with self.assertRaises(NoBase):
                    told((one, one, other), (1, 1, 1), 9, 1, *things)
        with self.assertRaises(DustError):
            mixed((empty(2), empty(3)), (1, 1), 0, 2)

    def test_unlike_bases_go_ahead_of_too_many(self):
        for sets in ((dense_circle(87), dense_circle(23), empty(3)), (dense_circle(87), dense_circle(23), whole(3))):
            with self.assertRaises(NoBase):
                mixed(sets, (0, 0, 0), 0, 1)
            with self.assertRaises(NoBase):
                shown(sets, (0, 0, 0), 0, 1, (0, 1))

    def test_two_thousand_states_and_one_more(self):
        just = ((dense_circle(125), dense_circle(16)), (0, 0), 0, 1)
        self.assertEqual(len(states_by_hand(just)), 2000)
        self.assertLessEqual(len(lots_by_hand(just)), 500)
        self.assertEqual(mixed(*just), alone(4, (0, 1)))
        self.look_at(just, (0, 1), True)
        self.look_at(just, (1, 3), False)
        more = ((dense_circle(87), dense_circle(23)), (0, 0), 0, 1)
        self.assertEqual(len(states_by_hand(more)), 2001)
        self.assert_too_many(2000, mixed, *more)
        for fraction in ((0, 1), (1, 3)):
            self.assert_too_many(2000, shown, *more, fraction)

    def test_just_the_rests_within_their_bounds_count(self):
        for weights, shift, sizes in (((8,), -1, (125,)), ((-8,), 6, (125,)), ((4, -4), 1, (25, 5))):
            mix = (tuple(dense_circle(size) for size in sizes), weights, shift, 7)
            # sixteen rests for each row, or each pair of rows
            self.assertEqual(len(states_by_hand(mix)), 2000)
            self.assert_too_many(500, mixed, *mix)
            shown(*mix, (1, 3))
            more = ((dense_circle(sizes[0] + 1),) + mix[0][1:], weights, shift, 7)
            self.assertGreater(len(states_by_hand(more)), 2000)
            self.assert_too_many(2000, mixed, *more)
            self.assert_too_many(2000, shown, *more, (1, 3))

    def test_states_from_which_no_endless_way_goes_on_count(self):
        one, other = lone_circle(4, 125)[0], lone_circle(4, 8)[0]
        mix = ((one, other), (1, 0), 0, 1)
        states = states_by_hand(mix)
        self.assertGreater(len(states), 2000)
        self.assertLessEqual(len([state for state in states if any(states[state])]), 2000)
        self.assert_too_many(2000, mixed, *mix)
        self.assert_too_many(2000, shown, *mix, (0, 1))

    def test_five_hundred_lots_and_one_more(self):
        for size, lesser in ((125, 4), (167, 3)):
            one, point = lone_circle(4, size)
            mix = ((one, lone_circle(4, lesser)[0]), (1, 0), 0, 1)
            self.assertEqual(len(lots_by_hand(mix)), size * lesser)
            if size * lesser == 500:
                self.assertEqual(mixed(*mix), one)
            else:
                self.assert_too_many(500, mixed, *mix)
            self.look_at(mix, point, True)
            self.look_at(mix, (0, 1), False)

    def test_states_go_ahead_of_lots(self):
        one, other = lone_circle(4, 199)[0], lone_circle(4, 200)[0]
        mix = ((one, other), (0, 0), 0, 1)
        self.assert_too_many(2000, mixed, *mix)
        fewer = ((one, lone_circle(4, 10)[0]), (0, 0), 0, 1)
        self.assertEqual((len(states_by_hand(fewer)), len(lots_by_hand(fewer))), (1990, 1990))
        self.assert_too_many(500, mixed, *fewer)
        self.look_at(fewer, (0, 1), True)

    def test_a_first_state_that_is_not_kept_brings_none(self):
        big, bigger = dense_circle(87), dense_circle(23)
        for shift in (-1, 2, 9, -9):
            self.assertEqual(mixed((big, bigger), (0, 0), shift, 1), empty(4))
            self.assertIsNone(shown((big, bigger), (0, 0), shift, 1, (0, 1)))
        self.assert_too_many(2000, mixed, (big, bigger), (0, 0), 1, 1)

    def test_refused_just_where_the_counts_say_so(self):
        values = some_sets(12, bases=(2, 3), most_pairs=8)
        values += [dense_circle(40), dense_circle(33), lone_circle(4, 29)[0], lone_circle(4, 18)[0]]
        refused = {2000: 0, 500: 0, None: 0}
        for one, other in itertools.combinations(values, 2):
            if one[0] != other[0] or not one[1] or not other[1]:
                continue
            for weights, shift, divisor in (((1, 1), 0, 2), ((3, -2), 0, 5), ((-9, 9), 0, 9)):
                mix = ((one, other), weights, shift, divisor)
                most = None
                if len(states_by_hand(mix)) > 2000:
                    most = 2000
                elif len(lots_by_hand(mix)) > 500:
                    most = 500
                refused[most] += 1
                if most is None:
                    self.assertTrue(mixed(*mix)[0] == one[0])
                else:
                    self.assert_too_many(most, mixed, *mix)
                if most == 2000:
                    self.assert_too_many(2000, shown, *mix, (1, 2))
                else:
                    shown(*mix, (1, 2))
        self.assertGreater(min(refused.values()), 0)


class TestShown(MixCase):
    def test_by_hand(self):
        self.assertEqual(shown((alone(3, (1, 4)),), (1,), 0, 1, (1, 4)), ((1, 4),))
        self.assertEqual(shown((alone(3, (1, 4)),), (-2,), 1, 1, (1, 2)), ((1, 4),))
        self.assertEqual(shown((alone(2, (1, 4)), alone(2, (1, 3))), (1, 1), 0, 1, (7, 12)), ((1, 4), (1, 3)))
        self.assertIsNone(shown((alone(3, (1, 4)),), (1,), 0, 1, (1, 2)))
        self.assertIsNone(shown((CANTOR,), (1,), 0, 1, (1, 2)))

    def test_all_points_of_sums_of_dust(self):
        for fraction in FRACTIONS:
            self.look_at(((CANTOR, CANTOR), (1, 1), 0, 2), fraction, True)
            self.look_at(((CANTOR, CANTOR), (1, -1), 0, 1), fraction, True)
            self.look_at(((CANTOR,), (1,), 0, 1), fraction, is_in(CANTOR, fraction))

    def test_shown_just_where_the_mixed_set_has_it(self):
        dust, halves = set_of(DUST, "x"), set_of(HALVES, "u")
        for mix in (
            ((dust, dust), (1, 1), 0, 2), ((dust, dust), (1, -1), 0, 1), ((dust, dust, dust), (1, 1, -1), 0, 1),
            ((halves, halves), (1, 1), 0, 2), ((halves, halves, halves), (1, 2, 3), 0, 7), ((dust,), (9,), -4, 1),
            ((halves, halves), (-9, 9), 0, 9), ((dust, dust), (0, 3), -1, 1), ((CANTOR, CANTOR), (1, 2), 0, 4),
        ):
            value = mixed(*mix)
            for fraction in FRACTIONS:
                self.look_at(mix, fraction, is_in(value, fraction))

    def test_nought_and_one(self):
        for base in range(2, 11):
            for fraction in ((0, 1), (1, 1), (1, base)):
                self.look_at(((whole(base), whole(base)), (1, 1), 0, 2), fraction, True)
                self.look_at(((whole(base), whole(base)), (9, -9), 0, 1), fraction, True)
                self.look_at(((alone(base, (1, 1)),), (1,), 0, 1), fraction, fraction == (1, 1))

    def test_a_thousand_digits(self):
        stem = tuple(at * at % 7 for at in range(500)) + (1,)
        ring = tuple(at * at % 11 % 10 for at in range(498)) + (2,)
        fractions = [fraction_of(10, (), stem + ring), fraction_of(10, stem, ring), fraction_of(10, stem * 2, (0,))]
        fractions += [fraction_of(10, (first,) + stem, ring) for first in (3, 8)]
        lone, point = lone_circle(10, 7)
        for fraction in fractions:
            self.look_at(((whole(10), whole(10)), (1, 1), 0, 2), fraction, True)
            self.look_at(((whole(10), lone), (1, 0), 0, 1), fraction, True)
            right = 0 <= 2 * worth(fraction) - worth(point) <= 1
            self.look_at(((lone, whole(10)), (1, 1), 0, 2), fraction, right)
            self.look_at(((circle(10, 3, (1, 2, 3), (1,)),), (1,), 0, 1), fraction, False)

    def test_a_ring_that_takes_many_rounds(self):
        fraction = fraction_of(10, (), tuple(at * at % 7 for at in range(996)) + (8,))
        other = circle(10, 199, (2, 4, 6), (4,))
        self.look_at(((whole(10), other), (1, 0), 0, 1), fraction, True)
        self.look_at(((other, whole(10)), (0, -1), 1, 1), fraction, True)

    def test_points_that_agree_for_long(self):
        ring, second = agreeing_rings(7, 9)
        first, last = fraction_of(4, (), ring), fraction_of(4, (), second)
        mix = ((several(4, (first, last)),), (1,), 0, 1)
        for fraction in (first, last):
            self.look_at(mix, fraction, True)
        self.look_at(mix, fraction_of(4, ring * 2, second), False)


if __name__ == "__main__":
    unittest.main()
