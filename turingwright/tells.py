"""Tells: machines told by others: many signs by two, tapes by counts, counts by tapes, step by step."""

from turingwright.errors import BadMachine, BadTape, NoEnd
from turingwright.machines import HALT, Machine
from turingwright.registers import trimmed_counts
from turingwright.tapes import Tape, of_word, trimmed

# On a tape that tells counts: what is counted, and what stands about each run of it.
ONE = 1
TWO = 2


def bits_for(signs):
    """Return how many noughts and ones tell so many signs."""
    return (signs - 1).bit_length()


def sign_bits(sign, size):
    """Return a sign's noughts and ones, the highest first."""
    return tuple([sign >> place & 1 for place in reversed(range(size))])


def told_by_two(tape, size):
    """Return the tape of noughts and ones, each sign by so many, the head on the first of its sign."""
    left = []
    for sign in tape.left:
        left.extend(sign_bits(sign, size)[::-1])
    right = []
    for sign in (tape.here,) + tape.right:
        right.extend(sign_bits(sign, size))
    return Tape(left, right[0], right[1:])


def told_back(tape, size):
    """Return the tape of signs that a tape of noughts and ones tells."""
    if any(sign > 1 for sign in tape.word()):
        raise BadTape("the tape has another sign than nought and one")
    # What is left over at an end is a sign, too, with noughts behind.
    left = range(1, len(tape.left) // size + 2)
    right = range(1, len(tape.right) // size + 1)
    return Tape([sign_at(tape, -place, size) for place in left], sign_at(tape, 0, size),
                [sign_at(tape, place, size) for place in right])


def sign_at(tape, place, size):
    """Return the sign that noughts and ones tell so many signs right of the head."""
    return of_bits([tape.at(place * size + bit) for bit in range(size)])


def of_bits(row):
    """Return the number of noughts and ones, the highest first."""
    number = 0
    for bit in row:
        number = 2 * number + bit
    return number


def by_two(machine):
    """Return (a machine of two signs that does the same, how many of its signs tell one)."""
    if any(row[1] == 0 for row in machine.table.values()):
        raise BadMachine("each row needs a move")
    size = bits_for(machine.signs)
    maker = Maker(machine.states)
    for state in range(machine.states):
        maker.read_from(machine, state, state, (), size)
    return (Machine(maker.count, 2, maker.table), size)


class Maker:
    """How many states there are, and a table that is made."""

    def __init__(self, count):
        self.count = count
        self.table = {}

    def fresh(self):
        """Return a fresh state."""
        self.count += 1
        return self.count - 1

    def read_from(self, machine, state, here, seen, size):
        """Make the rows that read the rest of a sign from a state of its own, so much seen."""
        for bit in (0, 1):
            bits = tuple(seen) + (bit,)
            if len(bits) < size:
                after = self.fresh()
                self.table[(here, bit)] = (bit, 1, after)
                self.read_from(machine, state, after, bits, size)
                continue
            row = machine.table.get((state, of_bits(bits)))
            if row is None:
                self.go_back(here, bit, size)
            else:
                self.write_back(row, here, bit, size)

    def go_back(self, here, bit, size):
        """Make the rows that go from the last place of a sign to its first and halt there."""
        # The last place of one is its first, too: no row is needed.
        if size > 1:
            self.table[(here, bit)] = (bit, -1, self.walk(-1, HALT, size - 2))

    def write_back(self, row, here, bit, size):
        """Make the rows that write a row's sign going back, then move, from the last place of the one read."""
        write, move, after = row
        bits = sign_bits(write, size)
        state, way = self.going(move, after, size)
        for written in bits[:-1]:
            place = self.fresh()
            for old in (0, 1):
                self.table[(place, old)] = (written, way, state)
            state, way = place, -1
        self.table[(here, bit)] = (bits[-1], way, state)

    def going(self, move, after, size):
        """Return (state, move) that goes from a sign's first place to the next sign's first on a side, rows made."""
        return (self.walk(move, after, size - 1), move)

    def walk(self, move, after, count):
        """Return a state that goes so many places to a side and on as another, rows made."""
        state = after
        for _ in range(count):
            here = self.fresh()
            for bit in (0, 1):
                self.table[(here, bit)] = (bit, move, state)
            state = here
        return state


def counts_word(counts):
    """Return a row of signs that tells counts: ones, each run behind a two, then a two."""
    row = (TWO,)
    for count in counts:
        row = row + (ONE,) * count + (TWO,)
    return row


def word_counts(word):
    """Return the counts that such a row tells, noughts at its end aside."""
    row = trimmed(word)
    if row == () or row[0] != TWO or row[-1] != TWO or any(sign not in (ONE, TWO) for sign in row):
        raise BadTape("the row tells no counts")
    counts = []
    for sign in row[:-1]:
        if sign == TWO:
            counts.append(0)
        else:
            counts[-1] += 1
    return tuple(counts)


def by_tape(program, width):
    """Return a machine of three signs that does a program on a tape of ones between twos; state k is row k's."""
    if program.width() > width or width < 1 or program.rows == ():
        raise BadMachine("a told program has a row or more, and no slot past the width")
    maker = Maker(len(program.rows))
    for place, row in enumerate(program.rows):
        nexts = [after if after < len(program.rows) else HALT for after in row[2:]]
        make_row(maker, place, row, nexts, width)
    return Machine(maker.count, 3, maker.table)


def make_row(maker, place, row, nexts, width):
    """Make the rows of a machine that does a program's row from its state on."""
    slot = row[1]
    run = maker.fresh()
    walk = run
    for _ in range(slot):
        state = maker.fresh()
        maker.table[(state, ONE)] = (ONE, 1, state)
        maker.table[(state, TWO)] = (TWO, 1, walk)
        walk = state
    maker.table[(place, TWO)] = (TWO, 1, walk)
    # At a run's beginning: as many twos are ahead as its slot's number, the first of all aside, and the rest behind.
    if row[0] == "add":
        shift_in(maker, run, width - slot, nexts[0], slot)
        return
    second = maker.fresh()
    maker.table[(run, ONE)] = (ONE, 1, second)
    maker.table[(run, TWO)] = (TWO, -1, go_home(maker, slot, nexts[1]))
    shift_out(maker, second, width - slot, nexts[0], slot)


def shift_in(maker, start, behind, after, ahead):
    """Make rows that put a one in at the head and move all behind it on by one place, then go home.

    So many twos stand from the head on, and so many between the first two and the head.
    """
    home = go_home(maker, behind + ahead - 1, after)
    # Each of these puts down the sign taken up a place ahead; so many twos stand from its place on.
    states = {(ONE, behind): start, (TWO, 0): maker.fresh()}
    for left in range(1, behind):
        states[(ONE, left)] = maker.fresh()
        states[(TWO, left)] = maker.fresh()
    for (sign, left), state in states.items():
        if left == 0:
            maker.table[(state, 0)] = (TWO, -1, home)
        else:
            maker.table[(state, ONE)] = (sign, 1, states[(ONE, left)])
            maker.table[(state, TWO)] = (sign, 1, states[(TWO, left - 1)])


def shift_out(maker, start, behind, after, ahead):
    """Make rows that move all from the head on back by one place, then go home.

    So many twos stand from the head on, and so many between the first two and the head.
    """
    home = go_home(maker, behind + ahead - 1, after)
    # The states behind a sign that was taken back; so many twos stand from the head on.
    pull = {(ONE, behind): maker.fresh()}
    for left in range(1, behind):
        pull[(ONE, left)] = maker.fresh()
        pull[(TWO, left)] = maker.fresh()
    pick_up(maker, start, behind, pull, home)
    for sign, left in list(pull):
        pick_up(maker, pull[(sign, left)], left, pull, home)


def pick_up(maker, state, left, pull, home):
    """Make rows that take the sign under the head one place back, so many twos left from there on."""
    for sign in (ONE, TWO):
        still = left - 1 if sign == TWO else left
        if pull.get((sign, left)) == state and still > 0:
            # The place it goes to has the same sign, the one that was taken back last.
            maker.table[(state, sign)] = (sign, 1, pull[(sign, still)])
            continue
        down = maker.fresh()
        if still > 0:
            over = maker.fresh()
            maker.table[(state, sign)] = (sign, -1, down)
            maker.table[(over, sign)] = (sign, 1, pull[(sign, still)])
            row = (sign, 1, over)
        else:
            maker.table[(state, sign)] = (0, -1, down)
            row = (sign, -1, home)
        for old in (ONE, TWO):
            maker.table[(down, old)] = row


def go_home(maker, twos, after):
    """Return a state that goes left past so many twos to the first, rows made, and on as another from there."""
    # A step aside and back: with a row that doesn't move, the machine could not be told by rules or by two signs.
    back = maker.fresh()
    for sign in (ONE, TWO):
        maker.table[(back, sign)] = (sign, -1, after)
    state = maker.fresh()
    maker.table[(state, ONE)] = (ONE, -1, state)
    maker.table[(state, TWO)] = (TWO, 1, back)
    for _ in range(twos):
        here = maker.fresh()
        maker.table[(here, ONE)] = (ONE, -1, here)
        maker.table[(here, TWO)] = (TWO, -1, state)
        state = here
    return state


def run_by_tape(program, counts, width, most):
    """Return the counts that the told machine of a program leaves, without noughts at the end."""
    if len(counts) > width:
        raise BadMachine("there are more counts than registers")
    machine = by_tape(program, width)
    word = counts_word(tuple(counts) + (0,) * (width - len(counts)))
    return trimmed_counts(word_counts(machine.run(of_word(word), most)[2].word()))


def number_of_side(row, signs):
    """Return the number of a row of signs, nearest lowest."""
    number = 0
    for sign in row[::-1]:
        number = signs * number + sign
    return number


def side_of_number(number, signs):
    """Return the row of signs of a number, nearest lowest."""
    found = []
    rest = number
    while rest > 0:
        rest, sign = divmod(rest, signs)
        found.append(sign)
    return tuple(found)


def counted_step(machine, state, counts):
    """Return (state, counts) behind a step where (left, here, right) are three numbers, None where it halts at once."""
    left, here, right = counts
    row = machine.table.get((state, here))
    if row is None:
        return None
    write, move, after = row
    if move == 0:
        return (after, (left, write, right))
    if move == 1:
        return (after, (machine.signs * left + write, right % machine.signs, right // machine.signs))
    return (after, (left // machine.signs, left % machine.signs, machine.signs * right + write))


def counted_run(machine, tape, most):
    """Return (steps, state, tape) at the halt, worked on three numbers alone."""
    state = 0
    counts = (number_of_side(tape.left, machine.signs), tape.here, number_of_side(tape.right, machine.signs))
    for steps in range(most + 1):
        after = counted_step(machine, state, counts)
        if after is None:
            left, here, right = counts
            return (steps, state, Tape(side_of_number(left, machine.signs), here, side_of_number(right, machine.signs)))
        state, counts = after
    raise NoEnd("no halt in so many steps")
