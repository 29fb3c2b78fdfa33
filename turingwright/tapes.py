"""Tapes: signs without end to both sides, all noughts but some, and a head on one of them."""

from turingwright.errors import BadTape

FIGURES = "0123456789"


class Tape:
    """The signs to the left, nearest first, the sign under the head, and those to the right, nearest first."""

    def __init__(self, left=(), here=0, right=()):
        self.left = trimmed(left)
        self.here = here
        self.right = trimmed(right)
        for sign in self.left + (here,) + self.right:
            if not isinstance(sign, int) or sign < 0:
                raise BadTape("signs are whole numbers from nought on")

    def write(self, sign):
        """Return the tape with another sign under the head."""
        return Tape(self.left, sign, self.right)

    def move(self, way):
        """Return the tape with the head moved: -1 left, 1 right, 0 not."""
        if way == 0:
            return Tape(self.left, self.here, self.right)
        if way == 1:
            return Tape((self.here,) + self.left, first_of(self.right), self.right[1:])
        if way == -1:
            return Tape(self.left[1:], first_of(self.left), (self.here,) + self.right)
        raise BadTape("a move is -1, 0 or 1")

    def at(self, place):
        """Return the sign so far right of the head, left of it below nought."""
        if place == 0:
            return self.here
        side = self.right if place > 0 else self.left
        far = abs(place)
        return first_of(side[far - 1:far])

    def ones(self):
        """Return how many signs aren't nought."""
        return len([sign for sign in self.word() if sign != 0])

    def span(self):
        """Return how many places lie from the first sign that isn't nought, or the head, to the last."""
        return len(self.word())

    def word(self):
        """Return the signs from the left end to the right end, the head's place among them too."""
        return self.left[::-1] + (self.here,) + self.right

    def shown(self):
        """Return (left, here, right)."""
        return (self.left, self.here, self.right)


def trimmed(row):
    """Return a row of signs without noughts at its end."""
    end = len(row)
    while end > 0 and row[end - 1] == 0:
        end -= 1
    return tuple(row[:end])


def first_of(row):
    """Return a row's first sign, nought for none."""
    if len(row) == 0:
        return 0
    return row[0]


def of_word(word, place=0):
    """Return the tape of a row of signs with the head on a place."""
    row = tuple(word)
    if row == () and place == 0:
        return Tape()
    if not 0 <= place < len(row):
        raise BadTape("the head's place is outside of the row")
    return Tape(row[:place][::-1], row[place], row[place + 1:])


def told_tape(tape):
    """Return a tape's text: figures from the left end, the head's in brackets."""
    if any(sign > 9 for sign in tape.word()):
        raise BadTape("a text has no figure for a sign past nine")
    left = "".join([str(sign) for sign in tape.left[::-1]])
    right = "".join([str(sign) for sign in tape.right])
    return f"{left}[{tape.here}]{right}"


def read_tape(text):
    """Return a text's tape."""
    left, bracket, rest = text.partition("[")
    here, end, right = rest.partition("]")
    if bracket == "" or end == "" or len(here) != 1 or (left + here + right).strip(FIGURES) != "":
        raise BadTape("a tape's text is figures, one of them in brackets")
    return Tape(signs_in(left)[::-1], int(here), signs_in(right))


def signs_in(figures):
    """Return the signs that a word of figures tells."""
    return tuple([int(figure) for figure in figures])


def turned_tape(tape):
    """Return a tape seen from behind."""
    return Tape(tape.right, tape.here, tape.left)
