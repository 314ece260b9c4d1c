"""What several tests look at: fractions, books, sets, and things of every kind that "of anything" can bring."""

import itertools
import math
import random
from fractions import Fraction

from dustwithin.fractions import fraction_of, writings_of
from dustwithin.joins import joined
from dustwithin.sets import set_of

DUST = (4, {"x": ((1, "x"), (2, "y")), "y": ((0, "x"),)})
# 0, 1/2, 1/4, 1/8 .. of u, 0 alone of v
HALVES = (2, {"u": ((0, "u"), (1, "v")), "v": ((0, "v"),)})


def fractions_to(most):
    """All fractions with a lower number of at most most."""
    return [(n, d) for d in range(1, most + 1) for n in range(d + 1) if math.gcd(n, d) == 1]


def worth(fraction):
    return Fraction(*fraction)


def fraction_worth(number):
    return (number.numerator, number.denominator)


def small_books():
    """All books to base 2 of the names a and b."""
    pairs = ((0, "a"), (0, "b"), (1, "a"), (1, "b"))
    rows = [row for size in range(5) for row in itertools.combinations(pairs, size)]
    return [(2, {"a": one, "b": other}) for one in rows for other in rows]


def some_books(many, bases=(2, 3, 4, 10), most_pairs=5):
    """So many unlike books of one to four names, each with a name of it, always the same ones."""
    chance = random.Random(7)
    found = []
    for at in range(many):
        base = bases[at % len(bases)]
        names = "abcd"[:1 + at // len(bases) % 4]
        pairs = sorted(itertools.product(range(base), names))
        rows = {}
        for name in names:
            size = chance.randrange(1, min(len(pairs), most_pairs) + 1)
            rows[name] = tuple(sorted(chance.sample(pairs, size)))
        found.append(((base, rows), "a"))
    return found


def some_sets(many, bases=(2, 3, 4, 10), most_pairs=5):
    return [set_of(book, name) for book, name in some_books(many, bases, most_pairs)]


def whole(base):
    """The set of all from 0 to 1."""
    return (base, ((0,) * base,))


def empty(base):
    return (base, ())


def name_at(at):
    return "".join("abcdefghij"[int(figure)] for figure in str(at))


def alone(base, fraction):
    """The set of a fraction alone, by a book that goes along one of its writings."""
    stem, ring = writings_of(base, fraction)[0]
    digits = stem + ring
    follows = list(range(1, len(digits))) + [len(stem)]
    rows = {name_at(at): ((digit, name_at(ahead)),) for at, (digit, ahead) in enumerate(zip(digits, follows))}
    return set_of((base, rows), name_at(0))


def several(base, fractions):
    """The set of just these fractions."""
    value = empty(base)
    for fraction in fractions:
        value = joined(value, alone(base, fraction))
    return value


def circle(base, size, digits, last):
    """A set of so many rows that lead round, by digits, the last one by the digits of last.

    Digits are neither 0 nor the greatest one: so no ends touch.
    """
    rows = []
    for at in range(size):
        going = digits if at + 1 < size else last
        rows.append(tuple((at + 1) % size if digit in going else None for digit in range(base)))
    return (base, tuple(rows))


def lone_circle(base, size):
    """A single point's set of so many rows, and the point: 1 again and again, at last 2, to a base above 3."""
    return circle(base, size, (1,), (2,)), fraction_of(base, (), (1,) * (size - 1) + (2,))


def agreeing_rings(one, other):
    """Rings of 1 and 2, of such unlike sizes without common divisor, that agree for one + other - 2 digits."""
    groups = list(range(one + other - 2))
    for size in (one, other):
        for at in range(size, len(groups)):
            old, new = groups[at], groups[at - size]
            groups = [new if group == old else group for group in groups]
    digits = tuple(1 if group == groups[0] else 2 for group in groups)
    return digits[:one], digits[:other]


def nested(depth, wrap):
    thing = 0
    for _ in range(depth):
        thing = wrap(thing)
    return thing


def anything():
    """Things that are no fraction, no book, no set and, but for (), no part of a way."""
    return [
        None, True, False, 0, 1, -1, 7, 10 ** 400,
        "", "a", "ab", "0/1", "\ud800", "\u00e9",
        [], [0, 1], [[0, 1]], [None], {}, {0: 1}, {"a": ()}, {(0, 1): (0, 1)},
        (), (None,), (0,), ("a",), ((),), ([],), ({},), (True, False), (None, None),
        ("a", "b"), ("0", "1"), ((), ()), ([], []), ({}, {}), (0, 1, 2),
        nested(100, lambda thing: [thing]),
        nested(100, lambda thing: (thing,)),
        nested(99, lambda thing: {"a": thing}),
        nested(99, lambda thing: (thing, thing) if thing == 0 else (thing,)),
        [0] * 9999, (0,) * 9999, "a" * 9999, {at: None for at in range(4999)},
    ]
