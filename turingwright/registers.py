"""Registers: programs that add one, take one or leap where there is none, run step by step, and put together."""

from turingwright.errors import BadMachine, BadSize, BadText, NoEnd

ROW_SIZES = {"add": 3, "take": 4}
ROW_SIGNS = {"add": "+", "take": "-"}
FIGURES = "0123456789"


class Program:
    """Rows ("add", slot, next) or ("take", slot, next, next where there is none), from row nought on."""

    def __init__(self, rows):
        self.rows = tuple([check_program_row(tuple(row)) for row in rows])

    def step(self, place, counts):
        """Return (place, counts) behind a row, None where it ends."""
        if not 0 <= place < len(self.rows):
            return None
        row = self.rows[place]
        slot = row[1]
        count = count_of(counts, slot)
        if row[0] == "add":
            return (row[2], with_count(counts, slot, count + 1))
        if count == 0:
            return (row[3], trimmed_counts(counts))
        return (row[2], with_count(counts, slot, count - 1))

    def run(self, counts, most):
        """Return (steps, place, counts) at the end."""
        if most < 0 or any(count < 0 for count in counts):
            raise BadSize("counts are not below nought")
        place, here = 0, trimmed_counts(counts)
        for steps in range(most + 1):
            after = self.step(place, here)
            if after is None:
                return (steps, place, here)
            place, here = after
        raise NoEnd("no end in so many steps")

    def history(self, counts, count):
        """Return the (place, counts) rows from the first on, so many steps or up to the end."""
        if count < 0:
            raise BadSize("a count of steps is not below nought")
        rows = [(0, trimmed_counts(counts))]
        for _ in range(count):
            place, here = rows[-1]
            after = self.step(place, here)
            if after is None:
                break
            rows.append(after)
        return tuple(rows)

    def width(self):
        """Return how many registers rows name, one more than the greatest."""
        return max([row[1] + 1 for row in self.rows], default=0)

    def shown(self):
        """Return the rows."""
        return self.rows


def check_program_row(row):
    """Return a program's row."""
    if len(row) == 0 or row[0] not in ("add", "take") or len(row) != ROW_SIZES[row[0]]:
        raise BadMachine("a row is to add, a slot and a row, or to take, a slot and two rows")
    if any(not isinstance(one, int) or one < 0 for one in row[1:]):
        raise BadMachine("slots and rows are numbers from nought on")
    return row


def count_of(counts, slot):
    """Return a slot's number."""
    if slot < len(counts):
        return counts[slot]
    return 0


def trimmed_counts(counts):
    """Return counts without noughts at the end."""
    end = len(counts)
    while end > 0 and counts[end - 1] == 0:
        end -= 1
    return tuple(counts[:end])


def with_count(counts, slot, number):
    """Return counts with another number of a slot, without noughts at the end."""
    row = list(counts) + [0] * (slot + 1 - len(counts))
    row[slot] = number
    return trimmed_counts(row)


def in_turn(programs):
    """Return the program that does programs one behind another."""
    rows = ()
    for program in programs:
        rows = rows + moved(program, len(rows)).rows
    return Program(rows)


def moved(program, by):
    """Return the rows of a program that stand so much later, ends right behind them."""
    end = len(program.rows)
    return Program([row[:2] + tuple([min(place, end) + by for place in row[2:]]) for row in program.rows])


def clear(slot):
    """Return the program that makes a slot nought."""
    return times_over(slot, Program(()))


def pour(slot, others):
    """Return the program that adds a slot's number to others, each as often as told, and makes it nought."""
    if slot in others:
        raise BadMachine("a slot isn't poured into itself")
    return times_over(slot, Program([("add", other, place + 1) for place, other in enumerate(others)]))


def copy(slot, other, room):
    """Return the program that adds a slot's number to another by an empty one, and leaves it."""
    if slot in (other, room) or other == room:
        raise BadMachine("a copy needs three slots")
    return in_turn((pour(slot, (other, room)), pour(room, (slot,))))


def while_not(slot, program):
    """Return the program that does another again and again while a slot isn't nought."""
    end = len(program.rows) + 2
    # Whether it is nought is seen only by taking one, so that is put in again ahead of the program.
    inner = back_to_first((("add", slot, 2),) + moved(program, 2).rows, end)
    return Program((("take", slot, 1, end),) + inner)


def times_over(slot, program):
    """Return the program that takes one from a slot and does another, till it is nought."""
    end = len(program.rows) + 1
    inner = back_to_first(moved(program, 1).rows, end)
    first = 1 if len(inner) > 0 else 0
    return Program((("take", slot, first, end),) + inner)


def back_to_first(rows, end):
    """Return rows that lead to row nought where they led to an end."""
    return tuple([row[:2] + tuple([0 if place == end else place for place in row[2:]]) for row in rows])


def told_program(program):
    """Return a program's text: rows with semicolons between, "+r a" or "-r a b"."""
    return ";".join([ROW_SIGNS[row[0]] + " ".join([str(one) for one in row[1:]]) for row in program.rows])


def read_program(text):
    """Return a text's program, a bare one's of no rows."""
    if text == "":
        return Program(())
    return Program([read_program_row(word) for word in text.split(";")])


def read_program_row(word):
    """Return the program's row of a text."""
    parts = word[1:].split(" ")
    if word[:1] not in ("+", "-") or len(parts) != (2 if word[:1] == "+" else 3):
        raise BadText("a row's text is + and two numbers, or - and three")
    if any(not 0 < len(part) < 5 or part.strip(FIGURES) != "" for part in parts):
        raise BadText("a number is one to four figures")
    return ("add" if word[:1] == "+" else "take",) + tuple([int(part) for part in parts])
