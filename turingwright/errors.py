"""The errors of turingwright: all stand under MachineFault, a ValueError."""


class MachineFault(ValueError):
    """What turingwright refuses."""


class BadMachine(MachineFault):
    """A machine, or a program, that can't be."""


class BadTape(MachineFault):
    """A tape, or a word, that can't be."""


class BadTerm(MachineFault):
    """A term, or a function, that can't be."""


class BadPaper(MachineFault):
    """A paper that doesn't show what it is to show."""


class BadSize(MachineFault):
    """A count or number that is out of bounds."""


class BadText(MachineFault):
    """A text that isn't one of the language."""


class BadStore(MachineFault):
    """Kept words that aren't whole."""


class NoEnd(MachineFault):
    """No end came in so many steps."""


class NoSuch(MachineFault):
    """What isn't there."""
