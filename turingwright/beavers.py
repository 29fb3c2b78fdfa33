"""Beavers: all small machines, as they are come to from a bare tape, each told to halt or not, and the busiest."""

from turingwright.errors import BadSize
from turingwright.machines import HALT, Machine
from turingwright.papers import check_decided, decide
from turingwright.tapes import Tape

CLASSES = ((1, 2), (2, 2), (1, 3))


def check_size(states, signs):
    """Return (states, signs), a class of machines that can be gone through."""
    if (states, signs) not in CLASSES:
        raise BadSize("the classes are two signs and up to two states, or three signs and one state")
    return (states, signs)


def rows_for(machine, states, signs):
    """Return the rows that may stand where a machine halts first: the halt, then signs, L ahead of R, and states."""
    rows = [(1, 1, HALT)]
    for sign in range(signs):
        for move in (-1, 1):
            for state in states_for(machine, states):
                rows.append((sign, move, state))
    return tuple(rows)


def states_for(machine, states):
    """Return the states that a new row may lead to: those that rows have or lead to, and the first other one."""
    # A run begins in state nought, so it is known ahead of all rows.
    known = {0: True}
    for (state, _), row in machine.table.items():
        known[state] = True
        known[row[2]] = True
    fresh = [state for state in range(states) if state not in known]
    return [state for state in range(states) if state in known or state in fresh[:1]]


def all_machines(states, signs, most, size):
    """Return (machine, what is told of it) for all machines of a class, grown where they halt without a row."""
    check_size(states, signs)
    found = []
    waiting = [Machine(states, signs, {})]
    while len(waiting) > 0:
        machine = waiting[0]
        told = decide(machine, most, size)
        if steps_told(told) is not None and not is_full(machine):
            waiting = with_rows(machine, states, signs, most) + waiting[1:]
        else:
            found.append((machine, told))
            waiting = waiting[1:]
    return tuple(found)


def steps_told(told):
    """Return the steps to a told halt, None where none is told."""
    if told is None or told[0] != "halts":
        return None
    return told[1]


def is_full(machine):
    """Tell whether a machine has a row that halts."""
    return any(row[2] == HALT for row in machine.table.values())


def with_rows(machine, states, signs, most):
    """Return the machines with one row more where a machine first has none, from a bare tape."""
    state, tape = machine.history(Tape(), most)[-1]
    if state == HALT or (state, tape.here) in machine.table:
        return []
    found = []
    for row in rows_to_grow(machine, states, signs):
        table = {key: machine.table[key] for key in machine.table}
        table[(state, tape.here)] = row
        found.append(Machine(states, signs, table))
    return found


def rows_to_grow(machine, states, signs):
    """Return the rows that a machine is grown by."""
    rows = rows_for(machine, states, signs)
    if len(machine.table) == 0:
        # To the left it would do the same, seen from behind.
        return [row for row in rows if row[1] == 1]
    if len(machine.table) == states * signs - 1:
        # With any row but the first, which halts, it had no halt at all.
        return [rows[0]]
    return list(rows)


def busiest(states, signs, most, size):
    """Return (most steps, most signs that aren't nought, how many halt, how many don't, how many aren't decided)."""
    rows = all_machines(states, signs, most, size)
    halted = [(machine, told[1]) for machine, told in rows if steps_told(told) is not None]
    best = max([steps for machine, steps in halted], default=0)
    ones = max([machine.run(Tape(), steps)[2].ones() for machine, steps in halted], default=0)
    undecided = len([told for machine, told in rows if told is None])
    return (best, ones, len(halted), len(rows) - len(halted) - undecided, undecided)


def check_class(rows):
    """Return how many machines of rows are told rightly."""
    for machine, told in rows:
        if told is None:
            raise BadSize("a machine isn't decided")
        check_decided(machine, told)
    return len(rows)


def champions(rows, most):
    """Return the machines of rows that halt behind the most steps, in order."""
    halted = [(machine, told[1]) for machine, told in rows if steps_told(told) is not None]
    best = max([steps for machine, steps in halted], default=0)
    if best > most:
        raise BadSize("a machine halts past the count of steps")
    return tuple([machine for machine, steps in halted if steps == best])


def kinds_told(rows):
    """Return a table of the kinds told to how many there are, in order, "open" for None."""
    kinds = ["open" if told is None else told[0] for machine, told in rows]
    return {kind: kinds.count(kind) for kind in sorted(kinds)}
