"""A desk: a house that is told, and asked, by rows of words."""

from dustwithin.errors import NoName, NoRow, NoText
from dustwithin.gaps import Gaps
from dustwithin.house import House
from dustwithin.kinds import is_name
from dustwithin.lengths import length
from dustwithin.limits import how_many, rank
from dustwithin.points import greatest, is_in, least, over, under
from dustwithin.texts import figures_of, number_by, read_book, read_fraction, show_fraction, show_set

# what each row's words behind the first one are; the first name of those that tell a form is the one told
TELLING = {
    "book": ("name", "own", "book"), "joined": ("name", "name", "name"), "met": ("name", "name", "name"),
    "turned": ("name", "name"), "cut": ("name", "name", "fraction", "fraction"), "limits": ("name", "name"),
    "kernel": ("name", "name"), "mixed": ("name", "name", "name", "weight", "weight", "weight", "divisor"),
    "copy": ("name", "name", "weight", "weight", "divisor"),
}
ASKING = {
    "base": ("base",), "drop": ("name",), "in": ("name", "fraction"), "least": ("name",), "most": ("name",),
    "length": ("name",), "near": ("name", "fraction"), "gaps": ("name", "many"), "rank": ("name",),
    "points": ("name",), "groups": (), "value": ("name",),
}
RANGES = {"base": (2, 10), "weight": (-9, 9), "divisor": (1, 9), "many": (1, 99)}
LINE_END = " / "
NO_NAMES = "-"


class Desk:
    """A desk, at first without a house."""

    def __init__(self):
        self.house = None

    def say(self, row):
        """The answer to a row."""
        word, kinds, texts = _words_of(row)
        if len(kinds) != len(texts) or (self.house is None and word != "base"):
            raise NoRow("no row that can be said here")
        parts = [_part_by(kind, text) for kind, text in zip(kinds, texts)]
        if word == "base":
            self.house = House(parts[0])
            return "ok"
        _refuse_missing(self.house.names(), word, kinds, parts)
        if word in TELLING:
            return _turned(self.house.tell(parts[0], _form_by(word, parts)))
        if word == "drop":
            return _turned(self.house.drop(parts[0]))
        if word == "groups":
            return LINE_END.join([" ".join(names) for names in self.house.groups()]) or NO_NAMES
        return _told_of(self.house.value(parts[0]), word, parts)


def _words_of(row):
    """A row's first word, the kinds of those that belong behind it, and their texts; NoRow of any other word."""
    word, *texts = row.split(" ")
    # the text of a book has blanks of its own
    if word == "book":
        texts = texts[:2] + [" ".join(texts[2:])]
    if "\n" in row or not (word in TELLING or word in ASKING):
        raise NoRow("no row begins so")
    kinds = TELLING[word] if word in TELLING else ASKING[word]
    return word, kinds, texts


def _part_by(kind, text):
    """What a text tells that is to be of a kind; NoRow where it isn't."""
    if kind in RANGES:
        part = _number_within(RANGES[kind], text)
    elif kind in ("book", "fraction"):
        part = _read(kind, text)
    else:
        part = text if is_name(text) else None
    if part is None:
        raise NoRow("a word is not of its kind")
    return part


def _number_within(ends, text):
    """The whole number that a text writes, None where it writes none from one end to the other."""
    number = number_by(text)
    if text.startswith("-"):
        number = number_by(text[1:])
        # nothing is ahead of 0: it isn't below itself
        number = -number if number else None
    low, high = ends
    return number if number is not None and low <= number <= high else None


def _read(kind, text):
    """The book or the fraction that a text writes, None where it writes none."""
    try:
        return read_book(text.replace(LINE_END, "\n")) if kind == "book" else read_fraction(text)
    except NoText:
        return None


def _refuse_missing(names, word, kinds, parts):
    """NoName of the first name that isn't there, but the one that is being told."""
    told = parts[0] if word in TELLING else None
    for kind, part in zip(kinds, parts):
        if kind == "name" and part != told and part not in names:
            raise NoName("no name that stands here")


def _form_by(word, parts):
    """The form that a row tells."""
    rest = parts[1:]
    if word == "book":
        own, book = rest
        return word, book, own
    if word == "mixed":
        one, other, weight, other_weight, shift, divisor = rest
        return word, (one, other), (weight, other_weight), shift, divisor
    if word == "copy":
        own, weight, shift, divisor = rest
        return "mixed", (own,), (weight,), shift, divisor
    return word, *rest


def _turned(names):
    return " ".join(["turned"] + (names or [NO_NAMES]))


def _told_of(value, word, parts):
    """The answer to a row that asks of a set."""
    if word == "in":
        return "yes" if is_in(value, parts[1]) else "no"
    if word == "near":
        return f"{_point(under(value, parts[1]))} {_point(over(value, parts[1]))}"
    if word == "gaps":
        return _first_gaps(value, parts[1])
    if word == "value":
        return show_set(value).replace("\n", LINE_END)
    if word == "rank":
        return figures_of(rank(value))
    if word == "points":
        many = how_many(value)
        return "endless" if many is None else figures_of(many)
    if word == "least":
        return _point(least(value))
    return _point(greatest(value)) if word == "most" else _point(length(value))


def _point(fraction):
    return "none" if fraction is None else show_fraction(fraction)


def _first_gaps(value, many):
    """So many gaps of a set, or all that it has."""
    gaps = Gaps(value)
    while len(gaps.told()) < many and gaps.more() is not None:
        pass
    return " ".join([f"{_point(low)}-{_point(high)}" for low, high in gaps.told()]) or "none"
