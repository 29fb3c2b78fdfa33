"""Codes: pairs, rows and programs told by one number each, told back, and a run of what a number tells."""

from math import isqrt

from turingwright.errors import BadSize, NoEnd
from turingwright.registers import Program, count_of, trimmed_counts


def pair(one, other):
    """Return the number of a pair of numbers, along falling rows."""
    if one < 0 or other < 0:
        raise BadSize("a pair is of numbers from nought on")
    row = one + other
    return row * (row + 1) // 2 + other


def parted(number):
    """Return the pair of a number."""
    if number < 0:
        raise BadSize("a pair's number is not below nought")
    row = (isqrt(8 * number + 1) - 1) // 2
    other = number - row * (row + 1) // 2
    return (row - other, other)


def row_code(row):
    """Return the number of a row: nought for a bare one, else one more than the pair of its first and the rest's."""
    code = 0
    for one in row[::-1]:
        code = pair(one, code) + 1
    return code


def row_of(number):
    """Return the row of a number."""
    if number < 0:
        raise BadSize("a row's number is not below nought")
    found = []
    rest = number
    while rest != 0:
        first, rest = parted(rest - 1)
        found.append(first)
    return tuple(found)


def step_code(row):
    """Return the number of a program's row: twice its parts' number for adding, one more for taking."""
    if row[0] == "add":
        return 2 * pair(row[1], row[2])
    return 2 * pair(row[1], pair(row[2], row[3])) + 1


def step_of(number):
    """Return the program's row of a number."""
    slot, rest = parted(number // 2)
    if number % 2 == 0:
        return ("add", slot, rest)
    return ("take", slot) + parted(rest)


def program_code(program):
    """Return a program's number."""
    return row_code([step_code(row) for row in program.rows])


def program_of(number):
    """Return the program of a number; each number tells one."""
    return Program([step_of(one) for one in row_of(number)])


def run_code(number, counts, most):
    """Return (steps, place, counts) at the end of what a number tells, worked on numbers alone."""
    if most < 0:
        raise BadSize("a count of steps is not below nought")
    place, code = 0, row_code(counts)
    for steps in range(most + 1):
        row = picked(number, place)
        if row is None:
            return (steps, place, trimmed_counts(row_of(code)))
        place, code = behind_row(row, code)
    raise NoEnd("no end in so many steps")


def behind_row(row, code):
    """Return the place and the number of the counts behind a program's row, all told by numbers."""
    slot, rest = parted(row // 2)
    count = picked(code, slot)
    if count is None:
        count = 0
    if row % 2 == 0:
        return (rest, with_number(code, slot, count + 1))
    after, at_nought = parted(rest)
    if count == 0:
        return (at_nought, code)
    return (after, with_number(code, slot, count - 1))


def picked(number, place):
    """Return the number at a place of a row's number, None behind its end."""
    rest = number
    for _ in range(place):
        rest = first_and_rest(rest)[1]
    if rest == 0:
        return None
    return first_and_rest(rest)[0]


def first_and_rest(number):
    """Return the first of a row's number and the number of the rest, noughts behind its end."""
    if number == 0:
        return (0, 0)
    return parted(number - 1)


def with_number(number, place, new):
    """Return the number of a row with another number at a place, noughts put behind its end."""
    firsts = []
    rest = number
    for _ in range(place):
        first, rest = first_and_rest(rest)
        firsts.append(first)
    code = pair(new, first_and_rest(rest)[1]) + 1
    for first in firsts[::-1]:
        code = pair(first, code) + 1
    return code


def bits_code(word):
    """Return the number of a word of noughts and ones: by length, then in order, from nought on."""
    if word.strip("01") != "":
        raise BadSize("a word is of noughts and ones")
    # With a one ahead, words of a length are the numbers from one power of two up to the next.
    code = 1
    for sign in word:
        code = 2 * code + int(sign)
    return code - 1


def bits_of(number):
    """Return the word of a number."""
    if number < 0:
        raise BadSize("a word's number is not below nought")
    figures = f"{number + 1:b}"
    return figures[1:]


def least_code(counts, found, limit, most):
    """Return the least number whose program from counts ends with a number in slot nought, None for none."""
    if limit < 0 or most < 0:
        raise BadSize("a limit and a count of steps are not below nought")
    for number in range(limit + 1):
        if slot_left(program_of(number), counts, most) == found:
            return number
    return None


def slot_left(program, counts, most):
    """Return the number that a program leaves in slot nought, None where it doesn't end within so many steps."""
    try:
        return count_of(program.run(counts, most)[2], 0)
    except NoEnd:
        return None
