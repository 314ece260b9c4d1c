"""Tables: a row for each cell, of the numbers of its own cells by digits, None where those are empty."""

from dustwithin.errors import NoBase, TooMany


def base_of(sets):
    """The base of one set or more; NoBase where it isn't the base of each."""
    base = sets[0][0]
    if any([own != base for own, _ in sets]):
        raise NoBase("sets of unlike bases")
    return base


def grown(first, cells, most=None):
    """The table of all keys that come from the first one, numbered as they come; TooMany of more than most.

    cells tells a key's own ones, by digits, None where there is none.
    """
    keys = [first]
    numbers = {None: None, first: 0}
    table = []
    while len(table) < len(keys):
        found = cells(keys[len(table)])
        for key in found:
            if key not in numbers:
                numbers[key] = len(keys)
                keys.append(key)
        if most is not None and len(keys) > most:
            raise TooMany(most)
        table.append(tuple([numbers[key] for key in found]))
    return table


def leads_of(rows):
    """For each row the numbers of the cells to which it leads, by digits, as often as it does."""
    return [[number for number in row if number is not None] for row in rows]


def back_of(leads):
    """For each number those that lead to it, as often as they do."""
    before = [[] for _ in leads]
    for at, ahead in enumerate(leads):
        for number in ahead:
            before[number].append(at)
    return before


def lasting(leads):
    """For each number whether an endless way goes on from it, by lists of those to which each leads."""
    before = back_of(leads)
    counts = [len(ahead) for ahead in leads]
    ended = [at for at, count in enumerate(counts) if count == 0]
    while ended:
        last = ended.pop()
        for at in before[last]:
            counts[at] -= 1
            if counts[at] == 0:
                ended.append(at)
    return [count > 0 for count in counts]


def lasting_by(rows, digit):
    """For each row whether it goes on by this one digit without end."""
    return lasting([[] if row[digit] is None else [row[digit]] for row in rows])


def numbered(base, rows, at):
    """The set of the cell with number at, where no two rows are alike and none is empty."""
    return base, tuple(grown(at, lambda number: rows[number]))


def value_of(base, table):
    """The set that a table's first row tells. Rows may be alike, or empty, but their ends agree."""
    goes = lasting(leads_of(table))
    if not goes or not goes[0]:
        return base, ()
    rows = [[number if number is not None and goes[number] else None for number in row] for row in table]
    classes = _classes(base, rows)
    row_of = dict(zip(classes, rows))

    def cells(own):
        return [None if number is None else classes[number] for number in row_of[own]]

    return base, tuple(grown(classes[0], cells))


def _classes(base, rows):
    """For each row the number of its class: alike are rows that go on by the same rows of digits.

    Classes are split by what leads into another one. Behind a split the smaller part alone is looked at
    again: so a long chain of rows costs little more than a short one.
    """
    before = [_back_by(rows, digit) for digit in range(base)]
    class_of = [0 for _ in rows]
    members = [{at: True for at in range(len(rows))}]
    waiting = [0]
    waits = [True]
    while waiting:
        own = waiting.pop()
        waits[own] = False
        inside = list(members[own])
        for back in before:
            parts = _leading_into(inside, back, class_of)
            for split, part in parts.items():
                if len(part) < len(members[split]):
                    _part_from(members, class_of, split, part)
                    smaller = len(part) <= len(members[split])
                    waiting.append(len(members) - 1 if waits[split] or smaller else split)
                    waits.append(False)
                    waits[waiting[-1]] = True
    return class_of


def _back_by(rows, digit):
    """For each number the rows that lead to it by a digit."""
    back = [[] for _ in rows]
    for at, row in enumerate(rows):
        if row[digit] is not None:
            back[row[digit]].append(at)
    return back


def _leading_into(inside, back, class_of):
    """The rows that lead inside, by their classes."""
    parts = {}
    for number in inside:
        for at in back[number]:
            parts.setdefault(class_of[at], []).append(at)
    return parts


def _part_from(members, class_of, split, part):
    """Makes part, some rows of the class split, a class of its own, the last one."""
    for at in part:
        del members[split][at]
        class_of[at] = len(members)
    members.append({at: True for at in part})
