"""Machines: tables of states and signs to a sign written, a move and a state, run step by step."""

from turingwright.errors import BadMachine, BadSize, BadText, NoEnd
from turingwright.tapes import Tape

HALT = -1
MOVES = {"L": -1, "R": 1, "N": 0}
MOVE_LETTERS = {-1: "L", 1: "R", 0: "N"}
STATE_LETTERS = "ABCDEFGHIJKLMNOPQRSTUVWXY"
TEXT_SIGNS = 9
TEXT_STATES = 20


class Machine:
    """How many states and signs there are, and a table of (state, sign) to (sign, move, state)."""

    def __init__(self, states, signs, table):
        if states < 1 or signs < 2:
            raise BadMachine("a machine has a state or more and two signs or more")
        for (state, sign), (write, move, after) in table.items():
            if not (0 <= state < states and 0 <= sign < signs and 0 <= write < signs):
                raise BadMachine("a row has a state or a sign that the machine hasn't")
            if move not in (-1, 0, 1) or not -1 <= after < states:
                raise BadMachine("a row has no such move, or leads to no such state")
        self.states = states
        self.signs = signs
        self.table = {key: tuple(row) for key, row in table.items()}

    def step(self, state, tape):
        """Return (state, tape) behind a step, None where it halts at once."""
        if state == HALT:
            return None
        if not 0 <= tape.here < self.signs or not 0 <= state < self.states:
            raise BadMachine("the machine hasn't this state or this sign")
        row = self.table.get((state, tape.here))
        if row is None:
            return None
        write, move, after = row
        return (after, tape.write(write).move(move))

    def run(self, tape, most, state=0):
        """Return (steps, state, tape) at the halt."""
        if most < 0:
            raise BadSize("a count of steps is not below nought")
        for steps in range(most + 1):
            after = self.step(state, tape)
            if after is None:
                return (steps, state, tape)
            state, tape = after
        raise NoEnd("no halt in so many steps")

    def history(self, tape, count, state=0):
        """Return the (state, tape) rows from the first on, so many steps or up to the halt."""
        if count < 0:
            raise BadSize("a count of steps is not below nought")
        rows = [(state, tape)]
        for _ in range(count):
            after = self.step(state, tape)
            if after is None:
                break
            state, tape = after
            rows.append(after)
        return tuple(rows)

    def halts_at(self):
        """Return the (state, sign) pairs at which it halts at once, in order."""
        pairs = [(state, sign) for state in range(self.states) for sign in range(self.signs)]
        return tuple([pair for pair in pairs if pair not in self.table])

    def shown(self):
        """Return (states, signs, rows in order), each row a pair of what it is for and what it does."""
        return (self.states, self.signs, tuple([(key, self.table[key]) for key in sorted(self.table)]))


def told_machine(machine):
    """Return a machine's text: a word for each state, with a triple for each sign."""
    if machine.signs > TEXT_SIGNS or machine.states > TEXT_STATES:
        raise BadMachine("a text has no room for more than nine signs or twenty states")
    words = []
    for state in range(machine.states):
        rows = [machine.table.get((state, sign)) for sign in range(machine.signs)]
        words.append("".join([told_row(row) for row in rows]))
    return " ".join(words)


def told_row(row):
    """Return a row's triple, "---" for none."""
    if row is None:
        return "---"
    write, move, after = row
    return f"{write}{MOVE_LETTERS[move]}{state_letter(after)}"


def state_letter(state):
    """Return a state's letter from A on, Z for the halt."""
    if state == HALT:
        return "Z"
    return STATE_LETTERS[state]


def read_machine(text):
    """Return a text's machine."""
    words = text.split()
    size = 0
    if len(words) > 0:
        size = len(words[0]) // 3
    if size < 2 or any(len(word) != 3 * size for word in words) or len(words) > TEXT_STATES:
        raise BadText("a machine's text is up to twenty words of as many triples, two or more")
    table = {}
    for state, word in enumerate(words):
        for sign in range(size):
            row = read_row(word[3 * sign:3 * sign + 3])
            if row is not None:
                table[(state, sign)] = row
    return Machine(len(words), size, table)


def read_row(triple):
    """Return a triple's row, None for none."""
    if triple == "---":
        return None
    if len(triple) != 3:
        raise BadText("a row's text is three signs")
    after = STATE_LETTERS[:TEXT_STATES].find(triple[2])
    if triple[0] not in "012345678" or triple[1] not in MOVES or (after < 0 and triple[2] != "Z"):
        raise BadText("a row's text is a sign, a move and a state")
    if triple[2] == "Z":
        after = HALT
    return (int(triple[0]), MOVES[triple[1]], after)


def turned_machine(machine):
    """Return the machine that does the same from behind."""
    table = {key: (write, -move, after) for key, (write, move, after) in machine.table.items()}
    return Machine(machine.states, machine.signs, table)


def renamed_states(machine, order):
    """Return the machine whose states are named anew: state k is the one that was order's k-th."""
    if sorted(order) != list(range(machine.states)):
        raise BadMachine("an order names each state once")
    names = {HALT: HALT}
    for name, state in enumerate(order):
        names[state] = name
    table = {}
    for (state, sign), (write, move, after) in machine.table.items():
        table[(names[state], sign)] = (write, move, names[after])
    return Machine(machine.states, machine.signs, table)


def come_to(machine):
    """Return the states that rows lead to from the first, itself too, in order."""
    found = {0: True}
    waiting = [0]
    while len(waiting) > 0:
        here = waiting.pop()
        for (state, _), row in machine.table.items():
            if state == here and row[2] != HALT and row[2] not in found:
                found[row[2]] = True
                waiting.append(row[2])
    return tuple(sorted(found))


def score(machine, most):
    """Return (steps, signs that aren't nought) at the halt from a bare tape."""
    steps, _, tape = machine.run(Tape(), most)
    return (steps, tape.ones())


def records(machine, count):
    """Return the (step, side, state, tape) at which the head first is farther to a side than ever."""
    return records_of(machine, machine.history(Tape(), count))


def records_of(machine, rows):
    """Return the records of a history."""
    places = places_of(machine, rows)
    found = []
    farthest = {1: 0, -1: 0}
    for step, (state, tape) in enumerate(rows):
        for side in (1, -1):
            if side * places[step] > farthest[side]:
                farthest[side] = side * places[step]
                found.append((step, side, state, tape))
    return tuple(found)


def places_of(machine, rows):
    """Return the head's places at (state, tape) rows that follow each other, nought at the first."""
    places = [0]
    for state, tape in rows[:-1]:
        places.append(places[-1] + machine.table[(state, tape.here)][1])
    return places
