"""What several tests look at: fractions, and things of every kind that "of anything" can bring."""

import math


def fractions_to(most):
    """All fractions with a lower number of at most most."""
    return [(n, d) for d in range(1, most + 1) for n in range(d + 1) if math.gcd(n, d) == 1]


def nested(depth, wrap):
    thing = 0
    for _ in range(depth):
        thing = wrap(thing)
    return thing


def anything():
    """Things that are no fraction, no book and, but for (), no part of a way."""
    return [
        None, True, False, 0, 1, -1, 7, 10 ** 400,
        "", "a", "ab", "0/1", "\ud800", "\u00e9",
        [], [0, 1], [[0, 1]], [None], {}, {0: 1}, {"a": ()}, {(0, 1): (0, 1)},
        (), (None,), (0,), ("a",), ((),), ([],), ({},), (True, False), (None, None),
        ("a", "b"), ("0", "1"), ((), ()), ([], []), ({}, {}), (0, 1, 2),
        nested(100, lambda thing: [thing]),
        nested(100, lambda thing: (thing,)),
        nested(99, lambda thing: {"a": thing}),
        nested(99, lambda thing: (thing, thing) if thing == 0 else (thing,)),
        [0] * 9999, (0,) * 9999, "a" * 9999, {at: None for at in range(4999)},
    ]
