"""Rings: numbers that lead to one another."""

from dustwithin.tables import back_of


def rings_of(leads):
    """All numbers in lists of those that lead to one another, each list behind those to which it leads.

    leads has for each number those to which it leads. A number that none leads back to is a list by itself.
    """
    before = back_of(leads)
    found = []
    taken = [False for _ in leads]
    # gone back from the numbers left last: what is found so leads to where it began, too
    for first in reversed(_as_left(leads)):
        if not taken[first]:
            found.append(_taken_back(before, first, taken))
    return found[::-1]


def comes_round(leads, ring):
    """Whether a way leads from a list of rings_of back to it."""
    return len(ring) > 1 or ring[0] in leads[ring[0]]


def _as_left(leads):
    """The numbers as they are left, each when all that it leads to was gone to."""
    left = []
    begun = [False for _ in leads]
    for first in range(len(leads)):
        waiting = [(first, False)]
        while waiting:
            number, done = waiting.pop()
            if done:
                left.append(number)
            elif not begun[number]:
                begun[number] = True
                waiting.append((number, True))
                waiting.extend([(ahead, False) for ahead in leads[number] if not begun[ahead]])
    return left


def _taken_back(before, first, taken):
    """The numbers not taken that lead to first, first with them; they are taken then."""
    ring = [first]
    taken[first] = True
    at = 0
    while at < len(ring):
        for number in before[ring[at]]:
            if not taken[number]:
                taken[number] = True
                ring.append(number)
        at += 1
    return ring
