"""A house: names that keep forms, and have the sets that these tell."""

from dustwithin.errors import Full, Held, NoForm, NoMark, NoName, Ring, TooMany
from dustwithin.forms import copied, is_form, names_in, reason_by_form, set_by_form
from dustwithin.kinds import is_name, is_whole
from dustwithin.points import is_in
from dustwithin.sets import MOST_ROWS

MOST_NAMES = 12
MOST_MARKS = 12


class House:
    """A house of a base."""

    # forms and sets are never changed, but exchanged for new ones: so marks keep them as they were

    def __init__(self, base):
        self.base = base
        self.forms = {}
        self.sets = {}
        self.marks = []

    def tell(self, name, form):
        """Tells a form under a name; the names whose sets turned."""
        if not is_name(name) or not is_form(self.base, form):
            raise NoForm("no name, or no form")
        self.refuse_names_of(form, name)
        if name not in self.forms and len(self.forms) >= MOST_NAMES:
            raise Full(MOST_NAMES)
        forms = {**self.forms, name: copied(form)}
        return self.exchange(forms, _sets_anew(self.base, forms, self.sets, name))

    def drop(self, name):
        """Takes a name away; the names whose sets turned, so the name alone."""
        self.refuse_unknown(name)
        for own in sorted(self.forms):
            if name in names_in(self.forms[own]):
                raise Held(own)
        forms = {own: form for own, form in self.forms.items() if own != name}
        return self.exchange(forms, {own: self.sets[own] for own in forms})

    def value(self, name):
        """The set of a name."""
        self.refuse_unknown(name)
        return self.sets[name]

    def form(self, name):
        """The form of a name."""
        self.refuse_unknown(name)
        return copied(self.forms[name])

    def hangers(self, name):
        """The names, rising, that hang on a name, near or far."""
        self.refuse_unknown(name)
        return sorted(_hanging(self.forms, name))

    def names(self):
        """All names, rising."""
        return sorted(self.forms)

    def groups(self):
        """The names with equal sets, in rising lists, in a rising list."""
        found = {}
        for name in sorted(self.sets):
            found.setdefault(self.sets[name], []).append(name)
        return sorted(found.values())

    def why(self, name, fraction):
        """Why a fraction is a point of a name: (word, things) by its form, None where it is none."""
        self.refuse_unknown(name)
        if not is_in(self.sets[name], fraction):
            return None
        form = self.forms[name]
        return form[0], reason_by_form(form, self.sets, fraction)

    def mark(self):
        """Marks how names and forms are; the mark's number."""
        if len(self.marks) >= MOST_MARKS:
            raise Full(MOST_MARKS)
        self.marks.append((self.forms, self.sets))
        return len(self.marks) - 1

    def back(self, number):
        """Makes names and forms what they were at a mark; the names whose sets turned."""
        if not is_whole(number) or not 0 <= number < len(self.marks):
            raise NoMark("no mark that stands there")
        forms, sets = self.marks[number]
        self.marks = self.marks[:number + 1]
        return self.exchange(forms, sets)

    def refuse_unknown(self, thing):
        """NoName of anything that is no name that stands here."""
        # what is no text may be no key, either
        if not isinstance(thing, str) or thing not in self.forms:
            raise NoName("no name that stands here")

    def refuse_names_of(self, form, name):
        """NoName or Ring where a form can't be told under a name, for one of the form's names."""
        named = names_in(form)
        for own in named:
            if own != name:
                self.refuse_unknown(own)
        hanging = _hanging(self.forms, name)
        for own in named:
            if own == name or own in hanging:
                raise Ring(own)

    def exchange(self, forms, sets):
        """Has forms and sets from now on; the names, rising, whose sets aren't what they were."""
        unlike = [name for name in sorted({**self.sets, **sets}) if self.sets.get(name) != sets.get(name)]
        self.forms = forms
        self.sets = sets
        return unlike


def _hanging(forms, name):
    """The names that hang on a name, near or far, each behind those on which it hangs itself."""
    hanging = {}
    found = _near(forms, [name])
    while found:
        # a name that is found again goes behind those found since
        hanging = {own: True for own in hanging if own not in found}
        hanging.update({own: True for own in found})
        found = _near(forms, found)
    return list(hanging)


def _near(forms, names):
    """The names whose forms name one of names."""
    return [own for own, form in forms.items() if any([name in names for name in names_in(form)])]


def _sets_anew(base, forms, sets, name):
    """All sets, with that of a name and of those that hang on it made anew; TooMany of one of more rows."""
    made = dict(sets)
    for own in [name] + _hanging(forms, name):
        # what hangs on names alone whose sets stay keeps its own
        if own == name or any([made[part] != sets[part] for part in names_in(forms[own])]):
            value = set_by_form(base, forms[own], made)
            if len(value[1]) > MOST_ROWS:
                raise TooMany(MOST_ROWS)
            made[own] = value
    return made
