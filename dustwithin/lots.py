"""Lots: numbers of states that come together behind a row of digits.

They are kept as the bits of one number: so lots of thousands of states are quickly put together.
"""

from dustwithin.tables import grown


def bits_of(numbers):
    """The lot of some numbers."""
    lot = 0
    for number in numbers:
        lot = lot | (1 << number)
    return lot


def lots_table(base, steps, first, most=None):
    """The table of the lots that come from a first one; TooMany of more than most.

    steps has for each state, by digits, the lot that comes behind it, 0 where none does.
    """
    def cells(lot):
        own = [steps[number] for number in _numbers_in(lot)]
        # the empty lot has no number
        return [_together(own, digit) or None for digit in range(base)]

    return grown(first, cells, most)


def _numbers_in(lot):
    signs = f"{lot:b}"
    return [number for number, sign in enumerate(signs[::-1]) if sign == "1"]


def _together(steps, digit):
    lot = 0
    for step in steps:
        lot = lot | step[digit]
    return lot
