"""Limits of sets, and their single points."""

from dustwithin.gaps import how_many_gaps
from dustwithin.joins import beyond
from dustwithin.points import is_in
from dustwithin.rings import comes_round, rings_of
from dustwithin.sets import set_by
from dustwithin.tables import leads_of


def limits(value):
    """All points of a set with others of it however near."""
    base, rows = value
    endless = _endless(rows)
    if not any(endless):
        return base, ()
    # a limit at a border may come from one side alone: so it is told anew where ends come to neighbours
    pairs = [
        [(digit, number) for digit, number in enumerate(row) if number is not None and endless[number]]
        for row in rows
    ]
    return set_by(base, pairs, 0)


def kernel(value):
    """What is left of a set when its limits are taken until nothing changes."""
    return _taken(value)[-1]


def rank(value):
    """How often something changes as limits are taken again and again."""
    return len(_taken(value)) - 1


def how_many(value):
    """How many points a set has, None of endlessly many."""
    rows = value[1]
    if any(_endless(rows)):
        return None
    # between each point and the next one is a gap
    return how_many_gaps(value) + 1 if rows else 0


def is_single(value, fraction):
    """Whether a fraction is a point of a set and no limit."""
    return is_in(value, fraction) and not is_in(limits(value), fraction)


def single_of(value):
    """A point of a set that is no limit, or None."""
    return beyond(value, limits(value))


def _taken(value):
    """A set, its limits, their limits, up to what has no other limits than itself."""
    found = [value]
    ahead = limits(value)
    while ahead != found[-1]:
        found.append(ahead)
        ahead = limits(ahead)
    return found


def _endless(rows):
    """For each cell whether it has endlessly many points."""
    leads = leads_of(rows)
    endless = [False for _ in rows]
    for ring in rings_of(leads):
        # each time round, a ring with a second way on comes to more cells, and a point lies in but two of a depth
        branches = comes_round(leads, ring) and any([len(leads[at]) > 1 for at in ring])
        goes = branches or any([endless[number] for at in ring for number in leads[at]])
        for at in ring:
            endless[at] = goes
    return endless
