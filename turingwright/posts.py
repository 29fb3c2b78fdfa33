"""Posts: pairs of words laid in a row so that both rows read alike, found, or shown that none can."""

from turingwright.errors import BadMachine, BadPaper, BadSize

NONE_OVER = (0, "")
MOST_PAIRS = 8


def check_pairs(pairs):
    """Return pairs of words, one or more, not both bare."""
    found = tuple([tuple(pair) for pair in pairs])
    if found == () or any(one + other == "" for one, other in found):
        raise BadMachine("there is a pair or more, none of two bare words")
    return found


def check_laid(pairs, row):
    """Return the word that both rows of pairs read."""
    if len(row) == 0 or any(not 0 <= place < len(pairs) for place in row):
        raise BadPaper("a row is of one or more of the pairs")
    one = "".join([pairs[place][0] for place in row])
    other = "".join([pairs[place][1] for place in row])
    if one != other:
        raise BadPaper("the rows don't read alike")
    return one


def over(state, pair):
    """Return what stands over behind one more pair: (side, word), nought for the first row, None where they part."""
    side, word = state
    one, other = pair
    if side == 0:
        one = word + one
    else:
        other = word + other
    if one.startswith(other):
        return (0, one[len(other):])
    if other.startswith(one):
        return (1, other[len(one):])
    return None


def plain(state):
    """Return a state, the first side for a bare word."""
    side, word = state
    if word == "":
        return NONE_OVER
    return (side, word)


def shortest(pairs, most, longest):
    """Return the shortest row, first in order, that reads alike, by what stands over, None where there is none so."""
    laid = check_pairs(pairs)
    found = {NONE_OVER: ()}
    waiting = [NONE_OVER]
    while len(waiting) > 0:
        state = waiting.pop(0)
        for place, after in ways_on(laid, state):
            row = found[state] + (place,)
            if after == NONE_OVER:
                return row
            if after in found or len(after[1]) > longest:
                continue
            if len(found) >= most:
                raise BadSize("there is too much that may stand over")
            found[after] = row
            waiting.append(after)
    return None


def ways_on(pairs, state):
    """Return (place, what stands over behind it) for each pair that may be laid."""
    ways = [(place, over(state, pair)) for place, pair in enumerate(pairs)]
    return [(place, plain(after)) for place, after in ways if after is not None]


def none_paper(pairs, most):
    """Return all (side, word) that may stand over, in order, None where they are too many or one is bare."""
    laid = check_pairs(pairs)
    found = {}
    waiting = [NONE_OVER]
    while len(waiting) > 0:
        state = waiting.pop()
        for place, after in ways_on(laid, state):
            if after == NONE_OVER:
                return None
            if after not in found:
                found[after] = True
                waiting.append(after)
        if len(found) > most:
            return None
    return tuple(sorted(found))


def check_none(pairs, paper):
    """Return how many (side, word) a paper has that shows that no row reads alike."""
    laid = check_pairs(pairs)
    table = {tuple(state): True for state in paper}
    for state in [NONE_OVER] + list(table):
        for place, after in ways_on(laid, state):
            if after == NONE_OVER or after not in table:
                raise BadPaper("a pair leads out of the paper, or to rows that read alike")
    return len(table)


def by_counts(pairs):
    """Tell whether lengths, or how often a sign is there, show that none reads alike: all pairs more on one side."""
    laid = check_pairs(pairs)
    signs = sorted({sign for one, other in laid for sign in one + other})
    for sign in [""] + signs:
        more = [times_in(one, sign) - times_in(other, sign) for one, other in laid]
        if min(more) > 0 or max(more) < 0:
            return True
    return False


def times_in(word, sign):
    """Return how often a sign is in a word, its length for a bare one."""
    if sign == "":
        return len(word)
    return word.count(sign)


def all_rows(pairs, count):
    """Return all rows of up to so many pairs that read alike, shorter ones first, in order."""
    if not 0 <= count <= MOST_PAIRS:
        raise BadSize("rows are of nought to eight pairs")
    laid = check_pairs(pairs)
    found = []
    here = [((), NONE_OVER)]
    for _ in range(count):
        here = [(row + (place,), after) for row, state in here for place, after in ways_on(laid, state)]
        found.extend([row for row, after in here if after == NONE_OVER])
    return tuple(found)


def turned_pairs(pairs):
    """Return the pairs of words read from behind."""
    return tuple([(one[::-1], other[::-1]) for one, other in check_pairs(pairs)])


def is_least(pairs, row):
    """Tell whether a row that reads alike has no lesser part from its beginning on that does."""
    check_laid(pairs, row)
    return not any(reads(pairs, row[:end]) for end in range(1, len(row)))


def reads(pairs, row):
    """Tell whether a row reads alike."""
    try:
        check_laid(pairs, row)
        return True
    except BadPaper:
        return False
