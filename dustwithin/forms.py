"""Forms: how the set of a name in a house is told, by a book or by the sets of other names."""

from dustwithin.books import is_book, way_to
from dustwithin.fractions import is_fraction
from dustwithin.joins import joined, met, stretch, turned
from dustwithin.kinds import is_name, is_whole
from dustwithin.limits import kernel, limits
from dustwithin.mixes import mixed, shown
from dustwithin.points import is_in
from dustwithin.sets import set_of

# how many names come behind the word of forms that have nothing else
NAMES_BEHIND = {"joined": 2, "met": 2, "turned": 1, "limits": 1, "kernel": 1}
MOST_WEIGHT = 9


def is_form(base, thing):
    """Whether anything is by its parts a form of a house of a base."""
    if not isinstance(thing, tuple) or not thing or not isinstance(thing[0], str):
        return False
    word, *parts = thing
    if word == "book":
        return len(parts) == 2 and _is_book_form(base, parts[0], parts[1])
    if word == "cut":
        return len(parts) == 3 and is_name(parts[0]) and _is_stretch(parts[1], parts[2])
    if word == "mixed":
        return len(parts) == 4 and _is_mixed_form(base, parts)
    return word in NAMES_BEHIND and len(parts) == NAMES_BEHIND[word] and all([is_name(part) for part in parts])


def names_in(form):
    """The names of a form, from left to right."""
    if form[0] == "book":
        return []
    if form[0] == "mixed":
        return list(form[1])
    return [form[1]] if form[0] == "cut" else list(form[1:])


def copied(form):
    """A form with a book of its own."""
    if form[0] != "book":
        return form
    word, (base, rows), name = form
    return word, (base, dict(rows)), name


def set_by_form(base, form, sets):
    """The set that a form tells, by the sets of names."""
    word = form[0]
    if word == "book":
        return set_of(form[1], form[2])
    own = [sets[name] for name in names_in(form)]
    if word == "joined":
        return joined(own[0], own[1])
    if word == "met":
        return met(own[0], own[1])
    if word == "turned":
        return turned(own[0])
    if word == "cut":
        return met(own[0], stretch(base, form[2], form[3]))
    if word == "mixed":
        return mixed(tuple(own), form[2], form[3], form[4])
    return limits(own[0]) if word == "limits" else kernel(own[0])


def reason_by_form(form, sets, fraction):
    """Why a fraction is a point of the set that a form tells: a way of a book, or points of the form's names."""
    if form[0] == "book":
        return way_to(form[1], form[2], fraction)
    names = names_in(form)
    points = [fraction for _ in names]
    if form[0] == "joined":
        # a point of one of both is enough
        names = [name for name in names if is_in(sets[name], fraction)][:1]
    elif form[0] == "turned":
        top, bottom = fraction
        points = [(bottom - top, bottom)]
    elif form[0] == "mixed":
        points = shown(tuple([sets[name] for name in names]), form[2], form[3], form[4], fraction)
    return tuple(zip(names, points))


def _is_book_form(base, book, name):
    return is_book(book) and book[0] == base and isinstance(name, str) and name in book[1]


def _is_stretch(low, high):
    """Whether two things are fractions, the second one no less."""
    return is_fraction(low) and is_fraction(high) and low[0] * high[1] <= high[0] * low[1]


def _is_mixed_form(base, parts):
    """Whether four things are names, as many weights, a shift and a divisor."""
    names, weights, shift, divisor = parts
    if not isinstance(names, tuple) or not isinstance(weights, tuple):
        return False
    if not 1 <= len(names) <= (3 if base <= 4 else 2) or len(weights) != len(names):
        return False
    if not all([is_name(name) for name in names]) or not all([_is_weight(weight) for weight in weights]):
        return False
    return _is_weight(shift) and _is_weight(divisor) and divisor > 0


def _is_weight(thing):
    return is_whole(thing) and -MOST_WEIGHT <= thing <= MOST_WEIGHT
