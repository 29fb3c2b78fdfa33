"""Rules: parts of words exchanged for others, anywhere or first ones first; what words lead to, machines told so."""

from turingwright.errors import BadMachine, BadPaper, BadSize, BadTape, NoEnd
from turingwright.machines import TEXT_SIGNS, TEXT_STATES, state_letter

LETTERS = "ABCDEFGHIJKLMNOPQRSTUVWXYZ"
FIGURES = "0123456789"


def check_rules(rules):
    """Return (part, part) rules, no first one bare."""
    found = tuple([tuple(rule) for rule in rules])
    if any(one == "" for one, other in found):
        raise BadMachine("a rule's first part is not bare")
    return found


def all_after(rules, word):
    """Return the (rule's place, word's place, word) of all ways to exchange one part, rule by rule, from the left."""
    found = []
    for number, (one, other) in enumerate(check_rules(rules)):
        place = word.find(one)
        while place >= 0:
            found.append((number, place, with_part(word, place, one, other)))
            place = word.find(one, place + 1)
    return tuple(found)


def with_part(word, place, one, other):
    """Return a word with another part in the place of one."""
    return word[:place] + other + word[place + len(one):]


def first_after(rules, word):
    """Return the first of all ways, None for none."""
    for number, (one, other) in enumerate(check_rules(rules)):
        place = word.find(one)
        if place >= 0:
            return (number, place, with_part(word, place, one, other))
    return None


def by_first(rules, word, most):
    """Return (steps, word) where the first way is gone again and again."""
    if most < 0:
        raise BadSize("a count of steps is not below nought")
    here = word
    for steps in range(most + 1):
        after = first_after(rules, here)
        if after is None:
            return (steps, here)
        here = after[2]
    raise NoEnd("no end in so many steps")


def reached(rules, word, most, longest):
    """Return a table of the words that lead from one to the (rule's place, word's place, word) ahead of each."""
    if most < 1:
        raise BadSize("the first word is one already")
    found = {word: None}
    waiting = [word]
    while len(waiting) > 0:
        here = waiting.pop(0)
        for number, place, after in all_after(rules, here):
            if after in found or len(after) > longest:
                continue
            if len(found) == most:
                raise BadSize("there are too many words")
            found[after] = (number, place, here)
            waiting.append(after)
    return found


def way_between(rules, one, other, most, longest):
    """Return the (rule's place, word's place) steps from a word to another, the fewest, None for none."""
    found = reached(rules, one, most, longest)
    if other not in found:
        return None
    steps = []
    here = other
    while found[here] is not None:
        number, place, here = found[here]
        steps.append((number, place))
    return tuple(steps[::-1])


def check_way(rules, word, steps):
    """Return the word behind (rule's place, word's place) steps."""
    here = word
    for number, place in steps:
        if not 0 <= number < len(rules) or place < 0:
            raise BadPaper("there is no such rule, or no such place")
        one, other = rules[number]
        if here[place:place + len(one)] != one or one == "":
            raise BadPaper("the rule's part isn't there")
        here = with_part(here, place, one, other)
    return here


def turned_rules(rules):
    """Return the rules that lead back."""
    return check_rules([(other, one) for one, other in check_rules(rules)])


def kept_count(rules, signs):
    """Tell whether each rule keeps how many of some signs there are."""
    return all(count_in(one, signs) == count_in(other, signs) for one, other in check_rules(rules))


def count_in(word, signs):
    """Return how many of some signs there are in a word."""
    return len([sign for sign in word if sign in signs])


def shortens(rules):
    """Tell whether each rule makes words shorter: it always ends."""
    return all(len(other) < len(one) for one, other in check_rules(rules))


def of_machine(machine):
    """Return the rules that do each step of a machine on words that tell its state and tape."""
    without_move = any(row[1] == 0 for row in machine.table.values())
    if machine.signs > TEXT_SIGNS or machine.states > TEXT_STATES or without_move:
        raise BadMachine("rules are told for up to nine signs and twenty states, each row with a move")
    rules = []
    for state, sign in sorted(machine.table):
        rules.extend(rules_of_row(machine, state, sign))
    return tuple(rules)


def rules_of_row(machine, state, sign):
    """Return the rules of a machine's row: one for each sign on the head's way, and one at the end."""
    write, move, after = machine.table[(state, sign)]
    head = f"{letter(state)}{sign}"
    signs = [str(one) for one in range(machine.signs)]
    if move == 1:
        inner = [(f"{head}{one}", f"{write}{letter(after)}{one}") for one in signs]
        return inner + [(f"{head}]", f"{write}{letter(after)}0]")]
    inner = [(f"{one}{head}", f"{letter(after)}{one}{write}") for one in signs]
    return inner + [(f"[{head}", f"[{letter(after)}0{write}")]


def letter(state):
    """Return a state's letter, Z for a halt."""
    return state_letter(state)


def word_of(state, tape):
    """Return the word of a state and a tape."""
    if any(sign > 9 for sign in tape.word()):
        raise BadTape("a word has no figure for a sign past nine")
    left = "".join([str(sign) for sign in tape.left[::-1]])
    right = "".join([str(sign) for sign in tape.right])
    return f"[{left}{letter(state)}{tape.here}{right}]"


def same_word(one, other):
    """Tell whether two such words are the same but for noughts at their ends."""
    return bare_word(one) == bare_word(other)


def bare_word(word):
    """Return such a word without noughts at its ends, the sign under the head kept."""
    if word[:1] != "[" or word[-1:] != "]":
        raise BadTape("a word stands in brackets")
    places = [place for place, sign in enumerate(word) if sign in LETTERS]
    if len(places) != 1 or places[0] + 1 >= len(word) - 1:
        raise BadTape("a word has one letter, ahead of the sign under the head")
    left, head, right = word[1:places[0]], word[places[0]:places[0] + 2], word[places[0] + 2:-1]
    if (left + head[1:] + right).strip(FIGURES) != "":
        raise BadTape("signs are told by figures")
    return "[" + left.lstrip("0") + head + right.rstrip("0") + "]"
