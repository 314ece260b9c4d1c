"""The refusals: all of them are DustErrors, and so ValueErrors."""


class DustError(ValueError):
    """Any refusal of this program."""


class TooMany(DustError):
    """More than most would come."""

    def __init__(self, most):
        DustError.__init__(self, f"more than {most}")
        self.most = most


class Full(DustError):
    """As many as most stand there already."""

    def __init__(self, most):
        DustError.__init__(self, f"{most} stand there already")
        self.most = most


class Held(DustError):
    """The form of name still names what was to go."""

    def __init__(self, name):
        DustError.__init__(self, f"held by {name}")
        self.name = name


class Ring(DustError):
    """By name the told form would hang on itself."""

    def __init__(self, name):
        DustError.__init__(self, f"comes back by {name}")
        self.name = name


class NoText(DustError):
    """At place the text stops being one that can be read."""

    def __init__(self, place):
        DustError.__init__(self, f"cannot be read at {place}")
        self.place = place


class NoBase(DustError):
    """Bases that do not fit each other."""


class NoWay(DustError):
    """No way of the name that comes round."""


class NoStretch(DustError):
    """A stretch whose end is less than its beginning."""


class NoName(DustError):
    """A name that does not stand there."""


class NoForm(DustError):
    """No name or no form."""


class NoMark(DustError):
    """No mark that stands there."""


class NoRow(DustError):
    """No row that a desk can answer."""
