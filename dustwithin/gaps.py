"""Gaps of sets: stretches between two points without points between, told by their lengths."""

from heapq import heapify, heappop, heappush

from dustwithin.errors import TooMany
from dustwithin.fractions import in_lowest_terms
from dustwithin.paths import GREATEST, LEAST, end_behind
from dustwithin.rings import comes_round, rings_of
from dustwithin.tables import back_of, lasting_by, leads_of

MOST_LONGER = 1000
# a sign that Python sorts behind all digits
BEHIND = ":"


class Gaps:
    """A teller of a set's gaps, the longest first, of like lengths the least first."""

    def __init__(self, value):
        self.handed = value
        self.choices = _choices_of(value)
        self.waiting = []
        self.found = []
        if value[1]:
            self.wait_for("", 0, 0)

    def more(self):
        """The next gap, (low, high), None when all were told."""
        while self.waiting:
            _, _, place, at, which = heappop(self.waiting)
            _, _, digit, following = self.choices[at][which]
            way = place[:-1] if following == 0 else place[:-2]
            self.wait_for(way, at, which + 1)
            if following > 0:
                gap = self.gap_at(way, at, digit, following)
                self.found.append(gap)
                return gap
            self.wait_for(place, self.handed[1][at][digit], 0)
        return None

    def told(self):
        """All gaps told so far."""
        return list(self.found)

    def wait_for(self, way, at, which):
        """Puts one of the choices of the cell to which way leads among those that wait, if there is one."""
        if which < len(self.choices[at]):
            size, order, digit, following = self.choices[at][which]
            place = f"{way}{digit}"
            if following > 0:
                # a gap comes behind those in the cell of its low end, ahead of those in later cells
                place = place + BEHIND
            heappush(self.waiting, (size + len(way), order, place, at, which))

    def gap_at(self, way, at, digit, following):
        """The gap between the cells of two digits, where way leads to the cell with number at."""
        row = self.handed[1][at]
        digits = tuple([int(sign) for sign in way])
        low = end_behind(self.handed, digits + (digit,), row[digit], GREATEST)
        high = end_behind(self.handed, digits + (following,), row[following], LEAST)
        return low, high


def how_many_gaps(value):
    """How many gaps a set has, None of endlessly many."""
    rows = value[1]
    leads = leads_of(rows)
    counts = [len(own) for own in _own_gaps(value)]
    for ring in rings_of(leads):
        for at in ring:
            counts[at] += sum([counts[number] for number in leads[at]])
        # a gap to which a ring leads comes again each time round
        if comes_round(leads, ring) and any([counts[at] > 0 for at in ring]):
            return None
    return counts[0] if rows else 0


def longer(value, fraction):
    """All gaps of a set longer than a fraction that isn't 0, the longest first; TooMany of more than are told."""
    gaps = Gaps(value)
    found = []
    gap = gaps.more()
    while gap is not None and _is_longer(gap, fraction):
        if len(found) == MOST_LONGER:
            raise TooMany(MOST_LONGER)
        found.append(gap)
        gap = gaps.more()
    return found


def _is_longer(gap, fraction):
    top, bottom = _length_of(gap)
    return top * fraction[1] > fraction[0] * bottom


def _length_of(gap):
    (low, low_bottom), (high, high_bottom) = gap
    return in_lowest_terms(high * low_bottom - low * high_bottom, low_bottom * high_bottom)


def _own_gaps(value):
    """For each cell its gaps that lie in no single cell of its own: (digit, following), where each begins and ends."""
    base, rows = value
    ones = lasting_by(rows, base - 1)
    found = []
    for row in rows:
        going = [digit for digit, number in enumerate(row) if number is not None]
        # where ends agree, 1 in a cell is 0 in the next one
        found.append([
            (digit, following) for digit, following in zip(going, going[1:]) if not ones[row[digit]]
        ])
    return found


def _choices_of(value):
    """For each cell where its gaps are, those first that are told first: (size, order, digit, following).

    By size, of like sizes by order, gaps are sorted, the longest first. They lie between the cells of the two
    digits, or, where following is 0, in the cell of the digit: then size and order are of its first one.
    """
    rows = value[1]
    own = _sized(value, _own_gaps(value))
    firsts = _firsts(leads_of(rows), own)
    found = []
    for row, choices in zip(rows, own):
        inner = [
            (firsts[number][0] + 1, firsts[number][1], digit, 0)
            for digit, number in enumerate(row) if number is not None and firsts[number] is not None
        ]
        found.append(sorted(choices + inner))
    return found


def _sized(value, gaps):
    """The own gaps of each cell with what sorts them by their lengths: (size, order, digit, following).

    A length is told as one that a further base times would make more than 1, taken to a size-th part of base;
    order is how many unlike lengths, so told, are greater.
    """
    kept = {}
    lengths = {
        (at, digit, following): _taken_up(value[0], _length_between(value, at, digit, following, kept))
        for at, own in enumerate(gaps) for digit, following in own
    }
    orders = _orders([taken for _, taken in lengths.values()])
    found = [[] for _ in gaps]
    for (at, digit, following), (size, taken) in lengths.items():
        found[at].append((size, orders[taken], digit, following))
    return found


def _length_between(value, at, digit, following, kept):
    """The length of the gap between the cells of two digits of a cell. Ends of cells are kept."""
    base, rows = value
    low, low_bottom = _end_of(value, rows[at][digit], GREATEST, kept)
    high, high_bottom = _end_of(value, rows[at][following], LEAST, kept)
    top = (following * high_bottom + high) * low_bottom - (digit * low_bottom + low) * high_bottom
    return top, base * low_bottom * high_bottom


def _end_of(value, at, end, kept):
    if (at, end) not in kept:
        kept[(at, end)] = end_behind(value, (), at, end)
    return kept[(at, end)]


def _taken_up(base, length):
    """A length taken base times as often as it stays at most 1, in lowest terms: (how often, length)."""
    top, bottom = length
    size = 0
    while top * base <= bottom:
        top = top * base
        size += 1
    return size, in_lowest_terms(top, bottom)


def _orders(lengths):
    """For each of some lengths how many unlike ones of them are greater."""
    # two unlike lengths differ by one part or more of both bottoms multiplied: so their whole parts differ, too
    bits = 2 * max([bottom.bit_length() for _, bottom in lengths], default=0)
    parts = sorted({((top << bits) // bottom, top, bottom) for top, bottom in lengths})
    return {(top, bottom): order for order, (_, top, bottom) in enumerate(parts[::-1])}


def _firsts(leads, own):
    """For each cell the (size, order) of the gap in it that is told first, None where it has none."""
    before = back_of(leads)
    waiting = [(size, order, at) for at, gaps in enumerate(own) for size, order, _, _ in gaps]
    heapify(waiting)
    found = [None for _ in leads]
    while waiting:
        size, order, at = heappop(waiting)
        if found[at] is None:
            found[at] = (size, order)
            for number in before[at]:
                heappush(waiting, (size + 1, order, number))
    return found
