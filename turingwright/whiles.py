"""Whiles: a small language of counts: put, add, loop and while, carried out, and told by registers."""

from turingwright.errors import BadMachine, BadSize, NoEnd
from turingwright.registers import (Program, clear, copy, count_of, in_turn, times_over, trimmed_counts, while_not,
                                    with_count)

STEP_SIZES = {"nought": 2, "copy": 3, "add": 2, "take": 2, "loop": 3, "while": 3}
GREATEST_BOUND = 300


def check_steps(rows):
    """Return steps, each of a kind and size that there is; names are numbers."""
    return tuple([check_step(row) for row in rows])


def check_step(row):
    """Return a step, the steps within it too."""
    if not isinstance(row, (list, tuple)) or len(row) == 0 or not isinstance(row[0], str):
        raise BadMachine("a step is a row that begins with its kind")
    if len(row) != STEP_SIZES.get(row[0]):
        raise BadMachine("there is no such step")
    if has_rounds(row):
        if not isinstance(row[2], (list, tuple)):
            raise BadMachine("a loop or while has steps")
        return (row[0], check_name(row[1]), check_steps(row[2]))
    return (row[0],) + tuple([check_name(name) for name in row[1:]])


def check_name(name):
    """Return a name, a number from nought on."""
    if not isinstance(name, int) or name < 0:
        raise BadMachine("names are numbers from nought on")
    return name


def has_rounds(row):
    """Tell whether a step is a loop or a while."""
    return row[0] in ("loop", "while")


class Carrier:
    """Counts, and how many steps are left."""

    def __init__(self, counts, most):
        if most < 0:
            raise BadSize("a count of steps is not below nought")
        self.counts = trimmed_counts(counts)
        self.left = most

    def carry(self, rows):
        """Carry steps out, each and each round one step."""
        counts, left = self.counts, self.left
        try:
            for row in rows:
                self.carry_step(row)
        except NoEnd:
            # What is refused changes nothing.
            self.counts, self.left = counts, left
            raise

    def carry_step(self, row):
        """Carry one step out."""
        self.spend()
        kind, name = row[0], row[1]
        here = count_of(self.counts, name)
        if kind == "nought":
            self.put(name, 0)
        elif kind == "copy":
            self.put(name, count_of(self.counts, row[2]))
        elif kind == "add":
            self.put(name, here + 1)
        elif kind == "take":
            self.put(name, max(0, here - 1))
        elif kind == "loop":
            for _ in range(here):
                self.spend()
                self.carry(row[2])
        else:
            while count_of(self.counts, name) != 0:
                self.spend()
                self.carry(row[2])

    def put(self, name, number):
        """Put a number in."""
        self.counts = with_count(self.counts, name, number)

    def spend(self):
        """Use up one step."""
        if self.left == 0:
            raise NoEnd("no end in so many steps")
        self.left -= 1


def carried(rows, counts, most):
    """Return the counts behind steps, without noughts at the end."""
    carrier = Carrier(counts, most)
    carrier.carry(check_steps(rows))
    return carrier.counts


def names_of(rows):
    """Return how many names steps have, one more than the greatest."""
    most = 0
    for row in rows:
        names = row[1:]
        if has_rounds(row):
            names = row[1:2]
            most = max(most, names_of(row[2]))
        most = max(most, max(names) + 1)
    return most


def depth(rows):
    """Return how many loops and whiles stand one in another at most."""
    return max([1 + depth(row[2]) for row in rows if has_rounds(row)], default=0)


def has_while(rows):
    """Tell whether there is a while among steps."""
    return any([row[0] == "while" or (row[0] == "loop" and has_while(row[2])) for row in rows])


def by_registers(rows):
    """Return a program that leaves the same counts of names, all registers behind them empty."""
    steps = check_steps(rows)
    return told_steps(steps, names_of(steps))


def told_steps(rows, room):
    """Return the program of steps in turn, registers from a room on empty before and behind."""
    return in_turn([told_step(row, room) for row in rows])


def told_step(row, room):
    """Return the program of a step, registers from a room on empty before and behind."""
    kind, name = row[0], row[1]
    if kind == "nought":
        return clear(name)
    if kind == "add":
        return Program((("add", name, 1),))
    if kind == "take":
        return Program((("take", name, 1, 1),))
    if kind == "copy":
        # Emptied first, a name that is put onto itself would be lost.
        if name == row[2]:
            return Program(())
        return in_turn((clear(name), copy(row[2], name, room)))
    if kind == "while":
        return while_not(name, told_steps(row[2], room))
    return in_turn((copy(name, room, room + 1), times_over(room, told_steps(row[2], room + 1))))


def adding(one, other):
    """Return steps that add a name's number to another."""
    return (("loop", one, (("add", other),)),)


def multiplying(one, other, found):
    """Return steps that put the product of two names in a third."""
    return (("nought", found), ("loop", one, adding(other, found)))


def less(one, other):
    """Return steps that take a name's number from another, nought at least."""
    return (("loop", one, (("take", other),)),)


def bound(rows, most):
    """Return a number that no count passes behind steps without whiles, where none passes a most ahead."""
    steps = check_steps(rows)
    if has_while(steps):
        raise BadMachine("behind a while there is no bound")
    return bound_behind(steps, most)


def bound_behind(rows, most):
    """Return a number that no count passes behind steps, where none passes a most ahead."""
    here = most
    for row in rows:
        if row[0] == "add":
            here += 1
        elif row[0] == "loop":
            here = bound_of_rounds(row[2], here)
        check_bound(here)
    return check_bound(here)


def bound_of_rounds(rows, most):
    """Return a number that no count passes behind a loop's rounds: they are no more than the most ahead."""
    here = most
    for _ in range(most):
        after = bound_behind(rows, here)
        if after == here:
            # Each round behind this one would leave it, too.
            return here
        here = after
    return here


def check_bound(number):
    """Return a bound that isn't too great."""
    if number > GREATEST_BOUND:
        raise BadSize("a count may grow too great")
    return number
