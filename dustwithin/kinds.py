"""What the smallest things are: whole numbers, bases, names, rising rows, names with rows."""


def is_whole(thing):
    """Whether anything is a whole number: an int that is no truth."""
    return isinstance(thing, int) and not isinstance(thing, bool)


def is_base(thing):
    """Whether anything is a base."""
    return is_whole(thing) and 2 <= thing <= 10


def is_name(thing):
    """Whether anything is a text of one to eight small letters."""
    if not isinstance(thing, str) or not 1 <= len(thing) <= 8:
        return False
    # not islower: that takes letters beyond a to z, too
    return all(["a" <= sign <= "z" for sign in thing])


def has_named_rows(thing):
    """Whether anything is a base and a dict from one to six names to whatever are to be their rows."""
    if not isinstance(thing, tuple) or len(thing) != 2:
        return False
    base, rows = thing
    if not is_base(base) or not isinstance(rows, dict) or not 1 <= len(rows) <= 6:
        return False
    return all([is_name(name) for name in rows])


def is_rising(row):
    """Whether the parts of a row, which can be compared, rise, each once."""
    return all([one < other for one, other in zip(row, row[1:])])
