"""Desks: lines said to a machine and a tape, answered, written down and done again."""

from turingwright.errors import (BadMachine, BadPaper, BadSize, BadStore, BadTape, BadTerm, BadText, MachineFault,
                                 NoEnd, NoSuch)
from turingwright.machines import come_to, read_machine, state_letter, told_machine, turned_machine
from turingwright.papers import decide
from turingwright.tapes import Tape, read_tape, told_tape

BASE = 9973
WIDE = 2000003
FIGURES = "0123456789"
LONGEST_WORDS = 2


def number(word):
    """Return the number of one to three figures."""
    if not 0 < len(word) < 4 or word.strip(FIGURES) != "":
        raise BadText("a number has one to three figures")
    return int(word)


def figure_of(text):
    """Return a text's figure: its signs' numbers added up, then weighed by their places from one on."""
    plain = sum([ord(sign) for sign in text])
    weighed = sum([place * ord(sign) for place, sign in enumerate(text, start=1)])
    return plain % WIDE * BASE + weighed % BASE


class Desk:
    """A machine, its state and tape, and the text of what was done."""

    def __init__(self):
        self.machine = None
        self.state = 0
        self.tape = Tape()
        self.text = ""
        self.many = 0

    def say(self, line):
        """Do or answer a line; return the answer, "error: ..." for what is refused."""
        try:
            return self.do(line)
        except BadText:
            return "error: text"
        except BadMachine:
            return "error: machine"
        except BadTape:
            return "error: tape"
        except BadTerm:
            return "error: term"
        except BadPaper:
            return "error: paper"
        except BadSize:
            return "error: size"
        except NoEnd:
            return "error: no end"
        except NoSuch:
            return "error: no such"

    def do(self, line):
        """Do or answer a line by its first word; what changes something is written down."""
        words = line.split()
        if words == [] or "\n" in line:
            raise BadText("a line is a row of words")
        kind = (words[0], len(words))
        if words[0] == "machine" and len(words) > 1:
            return self.let(read_machine(" ".join(words[1:])), 0, Tape(), words)
        if kind == ("tape", 2):
            tape = read_tape(words[1])
            return self.let(self.mine(), 0, tape, words)
        if kind == ("step", 2):
            machine = self.mine()
            state, tape = machine.history(self.tape, number(words[1]), self.state)[-1]
            return self.let(machine, state, tape, words)
        if kind == ("behind", 1):
            return self.let(turned_machine(self.mine()), 0, Tape(), words)
        return self.answer(words)

    def mine(self):
        """Return the machine."""
        if self.machine is None:
            raise NoSuch("there is no machine yet")
        return self.machine

    def let(self, machine, state, tape, words):
        """Let a machine, a state and a tape be, and write the line down; return the place."""
        place = told_place(state, tape)
        body = " ".join([str(self.many)] + list(words))
        self.machine = machine
        self.state = state
        self.tape = tape
        self.text = f"{self.text}{body} {figure_of(body)}\n"
        self.many += 1
        return place

    def answer(self, words):
        """Return the place, the machine, its end, what is told of it, or its states."""
        kind = (" ".join(words[:1]), len(words))
        if kind == ("place", 1):
            return told_place(self.state, self.tape)
        if kind == ("ones", 1):
            return str(self.tape.ones())
        if kind == ("rows", 1):
            return told_machine(self.mine())
        if kind == ("states", 1):
            return " ".join([str(state) for state in come_to(self.mine())])
        if kind == ("end", 2):
            machine = self.mine()
            steps, state, tape = machine.run(self.tape, number(words[1]), self.state)
            return f"{steps} {told_place(state, tape)}"
        if kind == ("decide", 2):
            machine = self.mine()
            return told_kind(decide(machine, number(words[1]), LONGEST_WORDS))
        raise BadText("there is no such line")


def told_kind(told):
    """Return what is told of a machine: the kind of paper, the steps to the halt, "open" for none."""
    if told is None:
        return "open"
    kind, paper = told
    if kind == "halts":
        return f"halts {paper}"
    return kind


def told_place(state, tape):
    """Return a state's letter, Z for a halt, and a tape's text."""
    return f"{state_letter(state)} {told_tape(tape)}"


def lines_of(text):
    """Return the lines of a written text, a row without an end left out."""
    lines = []
    for place, row in enumerate(text.split("\n")[:-1]):
        body, _, figure = row.rpartition(" ")
        head, _, line = body.partition(" ")
        if head != str(place) or figure != str(figure_of(body)):
            raise BadStore("a row isn't whole")
        lines.append(line)
    return tuple(lines)


def done_again(text):
    """Return the desk that a text's lines make from nothing."""
    desk = Desk()
    lines = lines_of(text)
    try:
        for line in lines:
            desk.do(line)
    except MachineFault as fault:
        raise BadStore("a line can't be done") from fault
    # Lines that only ask, or have other blanks, are never written.
    if desk.text != text[:text.rfind("\n") + 1]:
        raise BadStore("a row isn't as it is written")
    return desk
