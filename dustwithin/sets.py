"""Sets: the one value (base, rows) of all names that tell the same numbers, a row for each cell."""

from dustwithin.kinds import is_base, is_whole
from dustwithin.paths import LEAST, end_behind, first_apart
from dustwithin.tables import base_of, grown, lasting, lasting_by, numbered, value_of

MOST_ROWS = 200
LETTERS = "abcdefghijklmnopqrstuvwxyz"


def is_set(thing):
    """Whether anything is a set of at most two hundred rows."""
    if not isinstance(thing, tuple) or len(thing) != 2:
        return False
    base, rows = thing
    if not is_base(base) or not isinstance(rows, tuple) or len(rows) > MOST_ROWS:
        return False
    if not all([_is_row(base, len(rows), row) for row in rows]):
        return False
    # made anew, empty rows and rows that are one would go, and the others be numbered as they come
    return _ends_agree(base, rows) and value_of(base, rows) == thing


def set_of(book, name):
    """The set that a name of a book tells."""
    base, rows = book
    numbers = {own: at for at, own in enumerate(rows)}
    pairs = [[(digit, numbers[own]) for digit, own in row] for row in rows.values()]
    return set_by(base, pairs, numbers[name])


def set_by(base, pairs, first):
    """The set that the name with number first tells, by the pairs (digit, number) of each name."""
    steps = _steps(base, pairs)

    # what some names tell together has the cells of each of them, together
    def cells(lot):
        found = [sorted({number for own in lot for number in steps[own][digit]}) for digit in range(base)]
        return [tuple(part) if part else None for part in found]

    return value_of(base, grown((first,), cells))


def book_of(value):
    """A book, and a name of it that tells the set: a name for each row."""
    base, rows = value
    named = {_name_of(at): _pairs_of(row) for at, row in enumerate(rows or ((),))}
    return (base, named), _name_of(0)


def cell_at(value, digits):
    """The set of the cell to which digits lead."""
    base, rows = value
    here = 0 if rows else None
    for digit in digits:
        if here is not None:
            here = rows[here][digit]
    return (base, ()) if here is None else numbered(base, rows, here)


def parted(one, other):
    """Where two sets part, (fraction, side), None where they are one; NoBase of unlike bases."""
    sides = (one, other)
    base_of(sides)
    apart = first_apart(one, other, (0, 1))
    if apart is None:
        return None
    digits, side, at = apart
    return end_behind(sides[side], digits, at, LEAST), side


def _is_row(base, many, thing):
    """Whether anything is a row of a set to a right base that has so many rows."""
    if not isinstance(thing, tuple) or len(thing) != base:
        return False
    return all([number is None or (is_whole(number) and 0 <= number < many) for number in thing])


def _ends_agree(base, rows):
    """Whether 1 is in the cell of each digit just where 0 is in the next one's, in each row."""
    ones = lasting_by(rows, base - 1)
    noughts = lasting_by(rows, 0)
    return all([
        (lower is not None and ones[lower]) == (upper is not None and noughts[upper])
        for row in rows for lower, upper in zip(row, row[1:])
    ])


def _steps(base, pairs):
    """By the pairs (digit, number) of each name: for each, by digits, the numbers of those that tell its cell.

    Two more names tell 0 alone and 1 alone: they are in the cells to which a neighbour's end comes.
    """
    nought = len(pairs)
    one = len(pairs) + 1
    rows = pairs + [[(0, nought)], [(base - 1, one)]]
    noughts = lasting([[number for digit, number in row if digit == 0] for row in rows])
    ones = lasting([[number for digit, number in row if digit == base - 1] for row in rows])
    steps = []
    for row in rows:
        found = [[] for _ in range(base)]
        for digit, number in row:
            found[digit].append(number)
            if ones[number] and digit + 1 < base:
                found[digit + 1].append(nought)
            if noughts[number] and digit > 0:
                found[digit - 1].append(one)
        steps.append(found)
    return steps


def _pairs_of(row):
    return tuple([(digit, _name_of(number)) for digit, number in enumerate(row) if number is not None])


def _name_of(number):
    """The name of a row: its number, by letters as figures."""
    name = LETTERS[number % 26]
    rest = number // 26
    while rest > 0:
        name = LETTERS[rest % 26] + name
        rest = rest // 26
    return name
