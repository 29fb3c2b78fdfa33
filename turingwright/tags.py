"""Tags: words whose beginnings are taken off and whose first sign tells what is put behind, and rounds of such."""

from turingwright.errors import BadMachine, BadSize, BadTape, NoEnd


class Tag:
    """How many signs are taken off, and a table of signs to words put behind."""

    def __init__(self, count, table):
        self.count = count
        self.table = dict(table)
        if count < 1 or any(len(sign) != 1 for sign in self.table):
            raise BadMachine("a sign or more is taken off, and each word is told for one sign")

    def step(self, word):
        """Return the word behind a step, None where it ends."""
        if len(word) < self.count or word[0] not in self.table:
            return None
        return word[self.count:] + self.table[word[0]]

    def run(self, word, most):
        """Return (steps, word) at the end."""
        check_count(most)
        here = word
        for steps in range(most + 1):
            after = self.step(here)
            if after is None:
                return (steps, here)
            here = after
        raise NoEnd("no end in so many steps")

    def ring(self, word, most):
        """Return (step, step) of one word come to twice, None for none within so many steps."""
        check_count(most)
        seen = {}
        here = word
        for step in range(most + 1):
            if here is None:
                return None
            if here in seen:
                return (seen[here], step)
            seen[here] = step
            here = self.step(here)
        return None

    def shown(self):
        """Return (count, rows in order), each row a sign and its word."""
        return (self.count, tuple(sorted(self.table.items())))


class Rounds:
    """Words, none of another sign than 0 and 1, put behind in turn where the first sign, taken off, is 1."""

    def __init__(self, words):
        self.words = tuple(words)
        if self.words == () or any(word.strip("01") != "" for word in self.words):
            raise BadMachine("rounds are a word or more of noughts and ones")

    def step(self, place, word):
        """Return (next place, word) behind a step, None where it ends."""
        if word.strip("01") != "":
            raise BadTape("a word is of noughts and ones")
        if word == "":
            return None
        behind = self.words[place] if word[0] == "1" else ""
        return ((place + 1) % len(self.words), word[1:] + behind)

    def run(self, word, most):
        """Return (steps, place) at the end."""
        check_count(most)
        place, here = 0, word
        for steps in range(most + 1):
            after = self.step(place, here)
            if after is None:
                return (steps, place)
            place, here = after
        raise NoEnd("no end in so many steps")

    def history(self, word, count):
        """Return the (place, word) rows from the first on, so many steps or up to the end."""
        check_count(count)
        rows = [(0, word)]
        for _ in range(count):
            place, here = rows[-1]
            after = self.step(place, here)
            if after is None:
                break
            rows.append(after)
        return tuple(rows)

    def shown(self):
        """Return the words."""
        return self.words


def check_count(count):
    """Refuse a count of steps below nought."""
    if count < 0:
        raise BadSize("a count of steps is not below nought")


def coded(signs, word):
    """Return a word of signs in noughts and ones: each as long as there are signs, a one at its place."""
    if any(sign not in signs for sign in word):
        raise BadTape("a word has a sign that isn't among the signs")
    size = len(signs)
    return "".join([("0" * signs.index(sign) + "1").ljust(size, "0") for sign in word])


def uncoded(signs, word):
    """Return the word of noughts and ones in signs."""
    size = len(signs)
    if size == 0 or len(word) % size != 0:
        raise BadTape("a coded word has as many noughts and ones for each sign as there are signs")
    found = []
    for start in range(0, len(word), size):
        part = word[start:start + size]
        if part.count("1") != 1 or part.strip("01") != "":
            raise BadTape("a coded sign is noughts and a one")
        found.append(signs[part.index("1")])
    return "".join(found)


def as_rounds(tag, signs):
    """Return rounds that do what a tag does, each sign coded."""
    if any(sign not in tag.table for sign in signs) or signs == "":
        raise BadMachine("each sign needs a word, and there is one or more")
    words = [coded(signs, tag.table[sign]) for sign in signs]
    # Signs taken off behind the first one put nothing behind, whatever they are.
    bare = [""] * (len(signs) * (tag.count - 1))
    return Rounds(words + bare)


def lengths(tag, word, count):
    """Return the lengths of words from the first on, so many steps or up to the end."""
    check_count(count)
    found = [len(word)]
    here = word
    for _ in range(count):
        here = tag.step(here)
        if here is None:
            break
        found.append(len(here))
    return tuple(found)
