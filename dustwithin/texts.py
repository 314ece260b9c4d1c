"""Texts of fractions, books and sets, written and read."""

from dustwithin.books import is_book
from dustwithin.errors import NoText
from dustwithin.fractions import is_fraction
from dustwithin.kinds import is_base, is_name, is_rising
from dustwithin.sets import is_set

MOST_NAMES = 6
MOST_PAIRS = 12
MOST_FIGURES = 9
# Python writes no number of more than 4300 figures at once
PART_FIGURES = 64
PART = 10 ** 64
NONE = "-"


def show_fraction(fraction):
    """n/d."""
    top, bottom = fraction
    return f"{figures_of(top)}/{figures_of(bottom)}"


def show_book(book):
    """The base, then a line for each name, rising."""
    base, rows = book
    lines = [figures_of(base)]
    for name in sorted(rows):
        pairs = [f"{digit} {own}" for digit, own in rows[name]]
        lines.append(f"{name} = " + (", ".join(pairs) or NONE))
    return "\n".join(lines)


def show_set(value):
    """The base, then a line for each row."""
    base, rows = value
    lines = [[NONE if number is None else figures_of(number) for number in row] for row in rows]
    return "\n".join([figures_of(base)] + [" ".join(line) for line in lines])


def read_fraction(text):
    """The fraction that a text writes; NoText."""
    middle = _end_of_figures(text, 0)
    if text[middle:middle + 1] != "/":
        raise NoText(middle)
    end = _end_of_figures(text, middle + 1)
    fraction = (int(text[:middle]), int(text[middle + 1:end]))
    if end < len(text) or not is_fraction(fraction):
        raise NoText(end)
    return fraction


def read_book(text):
    """The book that a text writes; NoText."""
    lines = text.split("\n")
    base = _base_by(lines[0])
    rows = {}
    last = ""
    for place, line in enumerate(lines[1:], start=1):
        name, _, written = line.partition(" = ")
        row = _row_by(base, written)
        if not is_name(name) or name <= last or row is None or len(rows) == MOST_NAMES:
            raise NoText(place)
        rows[name] = row
        last = name
    if not is_book((base, rows)):
        raise NoText(len(lines))
    return base, rows


def read_set(text):
    """The set that a text writes; NoText."""
    lines = text.split("\n")
    base = _base_by(lines[0])
    rows = []
    for place, line in enumerate(lines[1:], start=1):
        parts = line.split(" ")
        if len(parts) != base or not all([part == NONE or number_by(part) is not None for part in parts]):
            raise NoText(place)
        rows.append(tuple([None if part == NONE else number_by(part) for part in parts]))
    value = (base, tuple(rows))
    if not is_set(value):
        raise NoText(len(lines))
    return value


def figures_of(number):
    """The figures of a whole number that isn't below 0, of however many."""
    parts = []
    while number >= PART:
        number, rest = divmod(number, PART)
        parts.append(str(rest).zfill(PART_FIGURES))
    return "".join([str(number)] + parts[::-1])


def number_by(text):
    """The whole number that a text's figures write, None where they write none."""
    if not 1 <= len(text) <= MOST_FIGURES or not all([_is_figure(sign) for sign in text]):
        return None
    return None if text[0] == "0" and text != "0" else int(text)


def _is_figure(sign):
    # not isdigit: that takes signs beyond 0 to 9, too
    return "0" <= sign <= "9"


def _end_of_figures(text, start):
    """Where the number ends that begins at start; NoText where none does."""
    if not text[start:start + 1] or not _is_figure(text[start]):
        raise NoText(start)
    end = start + 1
    # no figure comes behind a 0 ahead
    while text[start] != "0" and end < len(text) and end - start < MOST_FIGURES and _is_figure(text[end]):
        end += 1
    return end


def _base_by(line):
    """The base that a text's first line writes; NoText."""
    base = number_by(line)
    if not is_base(base):
        raise NoText(0)
    return base


def _row_by(base, text):
    """The row that a text writes, None where it writes none."""
    if text == NONE:
        return ()
    row = [_pair_by(base, part) for part in text.split(", ")]
    if len(row) > MOST_PAIRS or None in row or not is_rising(row):
        return None
    return tuple(row)


def _pair_by(base, text):
    """The pair of a digit and a name that a text writes, None where it writes none."""
    figures, _, name = text.partition(" ")
    digit = number_by(figures)
    if digit is None or digit >= base or not is_name(name):
        return None
    return digit, name
