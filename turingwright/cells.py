"""Cells: rows of noughts and ones that all change at once by their neighbours, in rings, and what comes of what."""

from turingwright.errors import BadMachine, BadSize, BadTape

PAIRS = ((0, 0), (0, 1), (1, 0), (1, 1))
# There are no more lots of pairs than this, so no shortest orphan is as long.
LOTS = 16


class Cells:
    """A number of eight figures of two: what each of three neighbours makes of the middle one, 111 first."""

    def __init__(self, number):
        if not 0 <= number < 256:
            raise BadMachine("a rule's number is below 256")
        self.number = number

    def of(self, left, here, right):
        """Return what three make of the middle one."""
        return bit(self, 4 * left + 2 * here + right)

    def step(self, row):
        """Return a ring of cells behind a step."""
        ring = check_row(row)
        size = len(ring)
        return tuple([self.of(ring[place - 1], ring[place], ring[(place + 1) % size]) for place in range(size)])

    def history(self, row, count):
        """Return the rings from the first on, so many steps."""
        if count < 0:
            raise BadSize("a count of steps is not below nought")
        rings = [check_row(row)]
        for _ in range(count):
            rings.append(self.step(rings[-1]))
        return tuple(rings)

    def ring(self, row):
        """Return (steps ahead of the first that comes again, steps from it till it does)."""
        here = check_row(row)
        seen = {}
        while here not in seen:
            seen[here] = len(seen)
            here = self.step(here)
        return (seen[here], len(seen) - seen[here])

    def ahead(self, row):
        """Return the rings that lead to one, in order, by going on place by place."""
        ring = check_row(row)
        size = len(ring)
        ways = list(PAIRS)
        for sign in ring[1:] + ring[:1]:
            ways = self.went_on(ways, sign)
        # Two places longer than the ring, a way has to end as it began.
        return tuple([way[:size] for way in ways if way[size:] == way[:2]])

    def went_on(self, ways, sign):
        """Return ways one place longer whose last three make a sign."""
        found = []
        for way in ways:
            for last in (0, 1):
                if self.of(way[-2], way[-1], last) == sign:
                    found.append(tuple(way) + (last,))
        return found

    def turned(self):
        """Return the rule seen from behind."""
        return of_signs([self.of(right, here, left) for left, here, right in all_rings(3)])

    def swapped(self):
        """Return the rule with noughts and ones exchanged."""
        return of_signs([1 - self.of(1 - left, 1 - here, 1 - right) for left, here, right in all_rings(3)])

    def shown(self):
        """Return the number."""
        return self.number


def of_signs(signs):
    """Return the rule of what all three neighbours make, 000 first."""
    number = 0
    for sign in signs[::-1]:
        number = 2 * number + sign
    return Cells(number)


def check_row(row):
    """Return a row of noughts and ones, one or more."""
    found = tuple(row)
    if found == () or any(sign not in (0, 1) for sign in found):
        raise BadTape("a ring is of noughts and ones, one or more")
    return found


def is_onto(cells):
    """Tell whether each row without end comes of some row: each word comes of a word two longer."""
    return orphan(cells, LOTS) is None


def orphan(cells, longest):
    """Return the shortest word, first in order, that comes of no word two longer, None for none so long."""
    if longest < 0:
        raise BadSize("a length is not below nought")
    known = {PAIRS: True}
    waiting = [((), PAIRS)]
    while len(waiting) > 0:
        word, lot = waiting.pop(0)
        if len(word) == longest:
            return None
        for sign in (0, 1):
            after = lot_behind(cells, lot, sign)
            if after == ():
                return word + (sign,)
            # What a lot leads to was looked at with the first word that led to it.
            if after not in known:
                known[after] = True
                waiting.append((word + (sign,), after))
    return None


def lot_behind(cells, lot, sign):
    """Return the pairs, in order, that words ahead may end in behind one more sign, where a lot told those before."""
    ways = cells.went_on(lot, sign)
    return tuple(sorted({way[1:] for way in ways}))


def is_one_to_one(cells):
    """Tell whether no two rows without end come to one."""
    alive = {(one, other): True for one in PAIRS for other in PAIRS}
    before = 0
    while before != len(alive):
        before = len(alive)
        nodes = list(alive)
        # What doesn't go on for ever, to both sides, is in no two rows without end.
        alive = {node: True for node in nodes if both(cells, node, alive, True) and both(cells, node, alive, False)}
    return all(one == other for one, other in alive)


def both(cells, node, alive, ahead):
    """Tell whether two pairs have two next ones, or ones before, that make the same sign, among those alive."""
    one, other = node
    for sign in (0, 1):
        for other_sign in (0, 1):
            made, pair = beside(cells, one, sign, ahead)
            other_made, other_pair = beside(cells, other, other_sign, ahead)
            if made == other_made and alive.get((pair, other_pair), False):
                return True
    return False


def beside(cells, pair, sign, ahead):
    """Return what a pair and a sign behind it (ahead True), or before it, make, and the pair come to."""
    first, second = pair
    if ahead:
        return (cells.of(first, second, sign), (second, sign))
    return (cells.of(sign, first, second), (sign, first))


def ring_kinds(cells, size):
    """Return how many rings of a size come of none, and how many come again, in time."""
    if not 0 < size < 11:
        raise BadSize("rings are of one cell to ten")
    after = {ring: cells.step(ring) for ring in all_rings(size)}
    orphans = len(after) - len(set(list(after.values())))
    again = list(after)
    before = 0
    # Behind steps enough there are none but those that come again.
    while before != len(again):
        before = len(again)
        again = list({after[ring]: True for ring in again})
    return (orphans, len(again))


def all_rings(size):
    """Return all rows of noughts and ones of a size, in order."""
    rows = [()]
    for _ in range(size):
        rows = [row + (sign,) for row in rows for sign in (0, 1)]
    return rows


def adds_up(cells):
    """Tell whether a step of two rows' sums by two is the sum of their steps."""
    return all(bit(cells, one ^ other) == bit(cells, one) ^ bit(cells, other) for one in range(8) for other in range(8))


def bit(cells, three):
    """Return what three, told by a number, make of the middle one."""
    return cells.number >> three & 1


def keeps_ones(cells):
    """Tell whether a step of any ring keeps how many ones there are, by rings of up to six."""
    return all(sum(cells.step(ring)) == sum(ring) for size in range(1, 7) for ring in all_rings(size))
