"""Terms: letters put to each other, three of which do something, and functions of names told by them."""

from turingwright.errors import BadSize, BadTerm, BadText, NoEnd

DEEDS = {"I": 1, "K": 2, "S": 3}
LETTERS = "IKSabcdefghijklmnopqrstuvwxyz"


def check_term(term):
    """Return a term: a letter, or ("put", term, term)."""
    waiting = [term]
    while len(waiting) > 0:
        here = waiting.pop()
        if isinstance(here, str):
            if len(here) != 1 or here not in LETTERS:
                raise BadTerm("a letter is I, K, S or a small one")
        elif not isinstance(here, tuple) or len(here) != 3 or here[0] != "put":
            raise BadTerm("a term is a letter, or one term put to another")
        else:
            waiting.extend(here[1:])
    return term


def put(one, other):
    """Return one term put to another."""
    return ("put", one, other)


def put_all(one, others):
    """Return one term put to others in turn."""
    found = one
    for other in others:
        found = put(found, other)
    return found


def spine(term):
    """Return (the first letter, the terms it is put to, in order)."""
    here = term
    rest = []
    while not isinstance(here, str):
        rest.append(here[2])
        here = here[1]
    return (here, tuple(rest[::-1]))


def parts_of(term):
    """Return all parts of a term, from the left, each behind its own parts, itself last."""
    found = []
    waiting = [term]
    while len(waiting) > 0:
        here = waiting.pop()
        found.append(here)
        if not isinstance(here, str):
            waiting.extend(here[1:])
    return found[::-1]


def all_letters(term):
    """Return the letters of a term, from the left."""
    return [part for part in parts_of(term) if isinstance(part, str)]


def size_of(term):
    """Return how many letters a term has."""
    return len(all_letters(term))


def letters_of(term):
    """Return the small letters of a term, each once, in order."""
    return tuple(sorted({letter for letter in all_letters(term) if letter not in DEEDS}))


def step(term):
    """Return the term behind the first deed from the left that can be done, outer ones first, None for none."""
    found = first_steps(term, 1)
    if len(found) == 0:
        return None
    return found[0]


def first_steps(term, most):
    """Return the terms behind one deed, the first from the left first, no more than so many."""
    found = []
    waiting = [(term, ())]
    while len(waiting) > 0 and len(found) < most:
        here, way = waiting.pop()
        head, rest = spine(here)
        needed = DEEDS.get(head)
        if needed is not None and needed <= len(rest):
            found.append(put_back(put_all(done(head, rest), rest[needed:]), way))
        for place in reversed(range(len(rest))):
            waiting.append((rest[place], (head, rest, place, way)))
    return found


def put_back(term, way):
    """Return the whole term with another one in the place that a way tells."""
    here, left = term, way
    while len(left) > 0:
        head, rest, place, left = left
        here = put_all(head, rest[:place] + (here,) + rest[place + 1:])
    return here


def done(head, rest):
    """Return what a letter makes of the first terms it is put to."""
    if head == "S":
        return put_all(rest[0], (rest[2], put(rest[1], rest[2])))
    return rest[0]


def all_steps(term):
    """Return all terms behind one deed, each once, the first from the left first."""
    # A term's text tells it, and a term itself may be too deep for a key.
    found = {}
    for after in first_steps(term, size_of(term)):
        found.setdefault(told_term(after), after)
    return tuple(found.values())


def ended(term, most, largest=400):
    """Return (steps, term) where nothing more can be done."""
    if most < 0:
        raise BadSize("a count of steps is not below nought")
    here = check_term(term)
    for steps in range(most + 1):
        after = step(here)
        if after is None:
            return (steps, here)
        if size_of(after) > largest:
            raise NoEnd("the term grows too great")
        here = after
    raise NoEnd("no end in so many steps")


def told_term(term):
    """Return a term's text: letters, brackets about what is put to."""
    texts = []
    for part in parts_of(term):
        if isinstance(part, str):
            texts.append(part)
        else:
            other = texts.pop()
            texts[-1] = texts[-1] + (other if len(other) == 1 else f"({other})")
    return texts[0]


def read_term(text):
    """Return a text's term."""
    term, place = read_terms(text, 0)
    if place != len(text):
        raise BadText("there is more behind the term")
    return term


def read_terms(text, place):
    """Return (term, place behind) of a row of letters and brackets."""
    outer = []
    found = None
    here = place
    while here < len(text) and (text[here] != ")" or len(outer) > 0):
        if text[here] == "(":
            outer.append(found)
            found = None
        elif text[here] == ")":
            found = joined(outer.pop(), check_found(found))
        else:
            found = joined(found, check_term(text[here]))
        here += 1
    check_found(found)
    if len(outer) > 0:
        raise BadText("a bracket has no end")
    return (found, here)


def check_found(term):
    """Return the term of a row, None refused."""
    if term is None:
        raise BadText("there is no term")
    return term


def joined(one, other):
    """Return one term put to another, the other alone where there is none ahead."""
    if one is None:
        return other
    return put(one, other)


def without(letter, term):
    """Return the term without a letter that, put to it, ends as the one does."""
    # For each part: the part without the letter, and whether the letter was there.
    made = []
    for part in parts_of(term):
        if isinstance(part, str):
            made.append(("I", True) if part == letter else (put("K", part), False))
        else:
            other, there = made.pop()
            one, ahead = made.pop()
            if not ahead and not there:
                made.append((put("K", part), False))
            elif not ahead and part[2] == letter:
                made.append((part[1], True))
            else:
                made.append((put_all("S", (one, other)), True))
    return made[0][0]


def function(letters, term):
    """Return the term without letters that, put to terms in turn, ends as the one with these in their places."""
    found = term
    for letter in letters[::-1]:
        found = without(letter, found)
    return found


def exchanged(term, table):
    """Return a term with letters exchanged for terms."""
    made = []
    for part in parts_of(term):
        if isinstance(part, str):
            made.append(table.get(part, part))
        else:
            other = made.pop()
            made[-1] = put(made[-1], other)
    return made[0]


def numeral(count):
    """Return the term that, put to two, puts the first so often before the second."""
    if count < 0:
        raise BadTerm("a number is not below nought")
    term = "x"
    for _ in range(count):
        term = put("f", term)
    return function("fx", term)


def number_of(term, most=3000):
    """Return how often a term, put to f and x, puts f before x."""
    end = ended(put_all(term, ("f", "x")), most)[1]
    count = 0
    while end != "x":
        if isinstance(end, str) or end[1] != "f":
            raise BadTerm("the term doesn't end as a number does")
        count += 1
        end = end[2]
    return count


def next_number():
    """Return the term that makes a number's the next one's."""
    return function("nfx", put("f", put_all("n", ("f", "x"))))


def sum_term():
    """Return the term that makes two numbers' their sum's."""
    return function("mnfx", put_all("m", ("f", put_all("n", ("f", "x")))))


def product_term():
    """Return the term that makes two numbers' their product's."""
    return function("mnfx", put_all("m", (put("n", "f"), "x")))


def meets(term, most):
    """Tell whether all ways of so many deeds at most from a term end, where they end, in one."""
    if most < 0:
        raise BadSize("a count of deeds is not below nought")
    here = [check_term(term)]
    seen = {told_term(term): True}
    ends = {}
    deeds = 0
    while len(here) > 0 and deeds <= most:
        found = []
        for one in here:
            after = all_steps(one)
            if len(after) == 0:
                ends[told_term(one)] = True
            found.extend(fresh_terms(after, seen))
        here = found
        deeds += 1
    return len(ends) < 2


def fresh_terms(terms, seen):
    """Return those of terms that weren't seen, by their texts, and put them among those seen."""
    found = []
    for term in terms:
        text = told_term(term)
        if text not in seen:
            seen[text] = True
            found.append(term)
    return found
