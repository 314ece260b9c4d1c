"""Fractions from 0 to 1, (n, d) in lowest terms, and their writings by digits."""

from math import gcd

from dustwithin.kinds import is_whole


def is_fraction(thing):
    """Whether anything is a fraction."""
    if not isinstance(thing, tuple) or len(thing) != 2:
        return False
    top, bottom = thing
    if not is_whole(top) or not is_whole(bottom):
        return False
    # (0, 0) goes out, too: its greatest common divisor is 0
    return 0 <= top <= bottom and gcd(top, bottom) == 1


def writings_of(base, fraction):
    """All writings of a fraction, (stem, ring), the greater one first."""
    top, bottom = fraction
    if top == bottom:
        # dividing would give 1 a digit ahead of the point
        return [((), (base - 1,))]
    stem, ring = _divided(base, top, bottom)
    if ring != (0,) or not stem:
        return [(stem, ring)]
    lesser = stem[:-1] + (stem[-1] - 1,)
    return [(stem, ring), (lesser, (base - 1,))]


def fraction_of(base, stem, ring):
    """The fraction that the digits of stem, then ring's again and again, write."""
    ahead, ahead_size = _number_of(base, stem)
    around, around_size = _number_of(base, ring)
    # a ring of k digits is worth its number out of base ** k - 1
    rounds = around_size - 1
    return _in_lowest_terms(ahead * rounds + around, ahead_size * rounds)


def _divided(base, top, bottom):
    """The digits of top / bottom, less than 1, by division: (stem, ring)."""
    places = {}
    digits = []
    rest = top
    while rest not in places:
        places[rest] = len(digits)
        digit, rest = divmod(rest * base, bottom)
        digits.append(digit)
    # like rests give like digits from there on, unlike rests unlike ones:
    # so neither stem nor ring could be shorter
    back = places[rest]
    return tuple(digits[:back]), tuple(digits[back:])


def _number_of(base, digits):
    """The whole number that digits write, and how many such there are."""
    number, size = 0, 1
    for digit in digits:
        number = number * base + digit
        size = size * base
    return number, size


def _in_lowest_terms(top, bottom):
    common = gcd(top, bottom)
    return top // common, bottom // common
