"""Papers: why a machine from a bare tape never halts: it comes back, back moved, or all it may be has no halt."""

from turingwright.errors import BadPaper, BadSize, NoEnd
from turingwright.machines import HALT, places_of, records_of
from turingwright.tapes import Tape, first_of


def ring_paper(machine, most):
    """Return (step, step) of one state and tape come to twice, the head's place aside, None for none."""
    seen = {}
    for step, (state, tape) in enumerate(machine.history(Tape(), most)):
        here = (state, tape.shown())
        if here in seen:
            return (seen[here], step)
        seen[here] = step
    return None


def check_ring(machine, paper):
    """Return how long a ring is."""
    first, second = paper
    if not 0 <= first < second:
        raise BadPaper("a ring's second step is behind its first one")
    rows = machine.history(Tape(), second)
    if len(rows) != second + 1:
        raise BadPaper("the machine halts ahead of the second step")
    if (rows[first][0], rows[first][1].shown()) != (rows[second][0], rows[second][1].shown()):
        raise BadPaper("the steps haven't the same state and signs")
    return second - first


def moved_paper(machine, most):
    """Return (side, step, step, depth) of two records that are the same where the head goes, None for none."""
    history = machine.history(Tape(), most)
    firsts = {1: [], -1: []}
    depths = {1: [], -1: []}
    for second in records_of(machine, history):
        side = second[1]
        if len(firsts[side]) > 0:
            depths[side].append(back_depth(machine, history, firsts[side][-1], second))
        paper = latest_first(firsts[side], depths[side], second)
        if paper is not None:
            return paper
        firsts[side].append(second)
    return None


def latest_first(firsts, depths, second):
    """Return the paper of a second record and the latest first one, depths told from each record to the next."""
    state, tape = second[2], second[3]
    depth = 0
    for number in reversed(range(len(firsts))):
        # Each record is one place behind the next one, so what lies behind that is one nearer to it.
        depth = max(depths[number], depth - 1)
        step, side, first_state, first_tape = firsts[number]
        if first_state == state and same_behind(first_tape, tape, side, depth):
            return (side, step, second[0], depth)
    return None


def back_depth(machine, history, first, second):
    """Return how many places behind its first place the head goes between two records of a side, at most."""
    places = places_of(machine, history[first[0]:second[0] + 1])
    return max([-first[1] * place for place in places])


def same_behind(one, other, side, depth):
    """Tell whether two tapes have the same signs under the head, and so many behind it, and all ahead nought."""
    if ahead_of(one, side) != () or ahead_of(other, side) != () or one.here != other.here:
        return False
    return all(one.at(-side * far) == other.at(-side * far) for far in range(1, depth + 1))


def ahead_of(tape, side):
    """Return the signs of a tape ahead of the head, for one that goes to a side."""
    if side == 1:
        return tape.right
    return tape.left


def check_moved(machine, paper):
    """Return how far the machine goes on a side each time."""
    side, first, second, depth = paper
    if side not in (-1, 1) or not 0 < first < second:
        raise BadPaper("a moved paper has a side, and a second step behind the first one")
    history = machine.history(Tape(), second)
    rows = {row[0]: row for row in records_of(machine, history) if row[1] == side}
    if first not in rows or second not in rows or rows[first][2] != rows[second][2]:
        raise BadPaper("the steps aren't records on the side with one state")
    if back_depth(machine, history, rows[first], rows[second]) > depth:
        raise BadPaper("the head goes deeper between the steps")
    if not same_behind(rows[first][3], rows[second][3], side, depth):
        raise BadPaper("the steps haven't the same signs so deep")
    return side * places_of(machine, history[first:])[-1]


def grams_paper(machine, size, most=4000):
    """Return lots of rows, left words and right words that hold all that a machine may come to, None for a halt."""
    if size < 1:
        raise BadSize("words are one long or longer")
    none = (0,) * size
    lots = ({(0, none, 0, none): True}, {none: True}, {none: True})
    before = 0
    while before != size_of_lots(lots):
        before = size_of_lots(lots)
        if before > most:
            raise BadSize("the lots have too many rows and words")
        for here in list(lots[0]):
            if not grow_from(machine, here, lots):
                return None
    return tuple([tuple(sorted(lot)) for lot in lots])


def size_of_lots(lots):
    """Return how many rows and words lots have in all."""
    return sum([len(lot) for lot in lots])


def grow_from(machine, here, lots):
    """Put in lots, three tables, all that a machine may come to from one of them, False where it halts."""
    state, left, sign, right = here
    row = machine.table.get((state, sign))
    if row is None or row[2] == HALT:
        return False
    write, move, after = row
    rows, left_words, right_words = lots
    if move == 0:
        rows[(after, left, write, right)] = True
    elif move == 1:
        left_words[left] = True
        for word in words_after(right_words, right):
            rows[(after, (write,) + left[:-1], first_of(right), word)] = True
    else:
        right_words[right] = True
        for word in words_after(left_words, left):
            rows[(after, word, first_of(left), (write,) + right[:-1])] = True
    return True


def words_after(words, old):
    """Return the words that begin as an old one goes on behind its first sign."""
    return [word for word in words if word[:-1] == old[1:]]


def check_grams(machine, paper):
    """Return how many rows and words the three lots of a paper have in all."""
    lots = read_lots(paper)
    # Words of no length tell nothing of the tape, so they show nothing.
    if len(lots) != 3 or len(lots[1]) == 0 or () in lots[1]:
        raise BadPaper("a paper is lots of rows, of left words and of right words")
    none = (0,) * len(list(lots[1])[0])
    if (0, none, 0, none) not in lots[0] or none not in lots[1] or none not in lots[2]:
        raise BadPaper("the lots haven't the bare tape")
    grown = ({}, {word: True for word in lots[1]}, {word: True for word in lots[2]})
    for here in lots[0]:
        if not grow_from(machine, here, grown):
            raise BadPaper("a row of the lots halts")
    if any(one not in lots[0] for one in grown[0]):
        raise BadPaper("a row leads out of the rows")
    if len(grown[1]) != len(lots[1]) or len(grown[2]) != len(lots[2]):
        raise BadPaper("a row leads out of the words")
    return size_of_lots(lots)


def read_lots(paper):
    """Return the lots of a paper as tables, rows and words told once."""
    lots = [{tuple(word): True for word in words} for words in paper[1:]]
    rows = {(row[0], tuple(row[1]), row[2], tuple(row[3])): True for lot in paper[:1] for row in lot}
    return [rows] + lots


def decide(machine, most, size):
    """Return ("halts", steps), or ("ring", ..), ("moved", ..), ("grams", ..) and a paper, None for none."""
    if most < 0:
        raise BadSize("a count of steps is not below nought")
    steps = halt_within(machine, most)
    if steps is not None:
        return ("halts", steps)
    paper = ring_paper(machine, most)
    if paper is not None:
        return ("ring", paper)
    paper = moved_paper(machine, most)
    if paper is not None:
        return ("moved", paper)
    for length in range(1, size + 1):
        paper = grams_paper(machine, length)
        if paper is not None:
            return ("grams", paper)
    return None


def halt_within(machine, most):
    """Return the steps to the halt from a bare tape, None for none within so many."""
    try:
        return machine.run(Tape(), most)[0]
    except NoEnd:
        return None


def check_decided(machine, told):
    """Tell whether a machine halts, as a told pair shows."""
    kind, paper = told
    if kind == "halts":
        if paper < 0 or len(machine.history(Tape(), paper + 1)) != paper + 1:
            raise BadPaper("the machine doesn't halt behind so many steps")
        return True
    if kind == "ring":
        check_ring(machine, paper)
    elif kind == "moved":
        check_moved(machine, paper)
    elif kind == "grams":
        check_grams(machine, paper)
    else:
        raise BadPaper("no such kind of paper")
    return False
