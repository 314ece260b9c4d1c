"""Fractions from 0 to 1, (n, d) in lowest terms, and their writings by digits."""

from math import gcd

from dustwithin.kinds import is_whole


def is_fraction(thing):
    """Whether anything is a fraction."""
    if not isinstance(thing, tuple) or len(thing) != 2:
        return False
    top, bottom = thing
    if not is_whole(top) or not is_whole(bottom):
        return False
    # (0, 0) goes out, too: its greatest common divisor is 0
    return 0 <= top <= bottom and gcd(top, bottom) == 1


def writings_of(base, fraction):
    """All writings of a fraction, (stem, ring), the greater one first."""
    top, bottom = fraction
    if top == bottom:
        # dividing would give 1 a digit ahead of the point
        return [((), (base - 1,))]
    stem, ring = _divided(base, top, bottom)
    if ring != (0,) or not stem:
        return [(stem, ring)]
    lesser = stem[:-1] + (stem[-1] - 1,)
    return [(stem, ring), (lesser, (base - 1,))]


def fraction_of(base, stem, ring):
    """The fraction that the digits of stem, then ring's again and again, write."""
    ahead, ahead_size = _number_of(base, stem)
    # a ring of many rounds would make numbers of as many figures
    around, around_size = _number_of(base, _once(ring))
    # a ring of k digits is worth its number out of base ** k - 1
    rounds = around_size - 1
    return in_lowest_terms(ahead * rounds + around, ahead_size * rounds)


def in_lowest_terms(top, bottom):
    """A number top / bottom, bottom above 0, as (n, d) in lowest terms."""
    common = gcd(top, bottom)
    return top // common, bottom // common


def _divided(base, top, bottom):
    """The digits of top / bottom, less than 1, by division: (stem, ring)."""
    # rests aren't kept: a told fraction's may be many and long
    stem = []
    rest = top
    for _ in range(_stem_size(base, bottom)):
        digit, rest = divmod(rest * base, bottom)
        stem.append(digit)
    start = rest
    ring = []
    while not ring or rest != start:
        digit, rest = divmod(rest * base, bottom)
        ring.append(digit)
    return tuple(stem), tuple(ring)


def _stem_size(base, bottom):
    """How many digits come ahead of the ring: as many as take from bottom all that it shares with base."""
    size = 0
    left = bottom
    common = gcd(left, base)
    while common > 1:
        left = left // common
        size += 1
        common = gcd(left, base)
    return size


def _once(ring):
    """The shortest part that, again and again, is ring."""
    sizes = [size for size in range(1, len(ring)) if len(ring) % size == 0]
    for size in sizes:
        if ring[:size] * (len(ring) // size) == ring:
            return ring[:size]
    return ring


def _number_of(base, digits):
    """The whole number that digits write, and how many such there are."""
    number, size = 0, 1
    for digit in digits:
        number = number * base + digit
        size = size * base
    return number, size
