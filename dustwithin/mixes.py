"""Mixed sets: what weighted sums of points of some sets come to, and points that come to a fraction."""

from dustwithin.errors import TooMany
from dustwithin.fractions import fraction_of, writings_of
from dustwithin.lots import bits_of, lots_table
from dustwithin.tables import base_of, lasting, value_of

MOST_STATES = 2000
MOST_LOTS = 500


class Mix:
    """A mix of sets of one base: its states, (cells, rest), and what comes behind them."""

    def __init__(self, sets, weights, divisor):
        self.base = base_of(sets)
        self.rows = [rows for _, rows in sets]
        self.weights = weights
        self.divisor = divisor
        self.low = -sum([weight for weight in weights if weight > 0])
        self.high = divisor - sum([weight for weight in weights if weight < 0])
        self.kept_steps = {}

    def starts(self, shift):
        """The first state in a list, an empty one where some set is empty or the state isn't kept."""
        if not all(self.rows) or not self.low <= shift <= self.high:
            return []
        return [((0,) * len(self.rows), shift)]

    def steps(self, cells):
        """What comes behind cells: by (the next cells, the digits' weighted sum) digits, one of each set."""
        if cells not in self.kept_steps:
            found = {((), 0): ()}
            for rows, weight, cell in zip(self.rows, self.weights, cells):
                found = _stepped(found, rows[cell], weight)
            self.kept_steps[cells] = found
        return self.kept_steps[cells]

    def behind(self, state):
        """For each digit the states that come behind a state."""
        cells, rest = state
        found = [[] for _ in range(self.base)]
        for ahead, total in self.steps(cells):
            worth = total + self.base * rest
            # just by these digits the next rest is one from low to high
            first = max(0, -((self.high - worth) // self.divisor))
            last = min(self.base - 1, (worth - self.low) // self.divisor)
            for digit in range(first, last + 1):
                found[digit].append((ahead, worth - digit * self.divisor))
        return found

    def digits_to(self, state, digit, following):
        """Digits, one of each set, by which a state comes to a following one behind a digit."""
        cells, rest = state
        ahead, next_rest = following
        total = next_rest + digit * self.divisor - self.base * rest
        return self.steps(cells)[(ahead, total)]


def mixed(sets, weights, shift, divisor):
    """The set of all (weighted sum + shift) / divisor from 0 to 1, of points of the sets, one of each.

    NoBase of unlike bases; TooMany of more states, or lots of them, than are made.
    """
    mix = Mix(sets, weights, divisor)
    _, table = _states_of(mix, shift)
    if not table:
        return mix.base, ()
    steps = [[bits_of(numbers) for numbers in row] for row in table]
    return value_of(mix.base, lots_table(mix.base, steps, bits_of([0]), MOST_LOTS))


def shown(sets, weights, shift, divisor, fraction):
    """Points, one of each set, that come to a fraction, or None; refused as mixed is, but for lots."""
    mix = Mix(sets, weights, divisor)
    states, table = _states_of(mix, shift)
    if not table:
        return None
    # a mixed set's ends agree: either writing of a point goes along its states
    stem, ring = writings_of(mix.base, fraction)[0]
    round_way = _round_along(table, stem, ring)
    if round_way is None:
        return None
    way, back = round_way
    digits = stem + ring * (len(way) // len(ring) + 1)
    steps = [
        mix.digits_to(states[number], digit, states[following])
        for number, digit, following in zip(way, digits, way[1:] + [way[back]])
    ]
    return tuple([_point_of(mix.base, steps, back, which) for which in range(len(sets))])


def _stepped(found, row, weight):
    """What was found of some sets' cells, gone on by the row of one more set's cell."""
    ahead = {}
    for (cells, total), digits in found.items():
        for digit, number in enumerate(row):
            if number is not None:
                key = (cells + (number,), total + weight * digit)
                ahead[key] = digits + (digit,)
    return ahead


def _states_of(mix, shift):
    """All states, and for each, by digits, the numbers of those behind it from which an endless way goes on.

    Without states where no endless way goes on from the first one. TooMany of more than are made.
    """
    states = mix.starts(shift)
    numbers = {state: 0 for state in states}
    table = []
    while len(table) < len(states):
        parts = mix.behind(states[len(table)])
        for part in parts:
            for state in part:
                if state not in numbers:
                    numbers[state] = len(states)
                    states.append(state)
        if len(states) > MOST_STATES:
            raise TooMany(MOST_STATES)
        table.append([[numbers[state] for state in part] for part in parts])
    goes = lasting([[number for part in row for number in part] for row in table])
    if not goes or not goes[0]:
        return [], []
    return states, [[[number for number in part if goes[number]] for part in row] for row in table]


def _round_along(table, stem, ring):
    """A way along a writing that comes round: the numbers of its states, and the place it comes back to.

    None where there is no such way.
    """
    digits = stem + ring
    many = len(table)

    # a node is a place in the writing and a state, told by one number
    def behind(node):
        place, number = divmod(node, many)
        ahead = place + 1 if place + 1 < len(digits) else len(stem)
        return [ahead * many + following for following in table[number][digits[place]]]

    found = _coming_round(0, behind)
    if found is None:
        return None
    nodes, back = found
    return [node % many for node in nodes], back


def _coming_round(first, behind):
    """A way of nodes that comes round, by those behind each, and the place it comes back to, or None."""
    way = []
    places = {}
    tried = set()
    choices = [[first]]
    while choices:
        if not choices[-1]:
            # no way from the last node comes round
            choices.pop()
            if way:
                last = way.pop()
                del places[last]
            continue
        node = choices[-1].pop()
        if node not in tried:
            tried.add(node)
            places[node] = len(way)
            way.append(node)
            ahead = behind(node)
            backs = [places[following] for following in ahead if following in places]
            if backs:
                return way, max(backs)
            choices.append(ahead)
    return None


def _point_of(base, steps, back, which):
    """The point of one of the sets, by the digits of all of them at each step and the place they come back to."""
    digits = [step[which] for step in steps]
    return fraction_of(base, digits[:back], digits[back:])
