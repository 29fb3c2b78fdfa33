"""Recs: functions of whole numbers put together from noughts, next ones and picks, and told by loops."""

from turingwright.errors import BadSize, BadTerm, NoEnd

TERM_SIZES = {"nought": 2, "next": 1, "pick": 3, "put": 3, "rec": 3, "least": 2}


def check_function(term):
    """Return how many numbers a function takes."""
    if not isinstance(term, (list, tuple)) or len(term) == 0 or not isinstance(term[0], str):
        raise BadTerm("a function is a row that begins with its kind")
    if len(term) != TERM_SIZES.get(term[0]):
        raise BadTerm("there is no such function")
    if term[0] == "put":
        return check_put(term)
    if term[0] == "rec":
        count = check_function(term[1])
        if check_function(term[2]) != count + 2:
            raise BadTerm("a step takes the turn, what was found, and what the base takes")
        return count + 1
    if term[0] == "least":
        count = check_function(term[1])
        if count < 1:
            raise BadTerm("a test takes a number or more")
        return count - 1
    return check_plain_part(term)


def check_plain_part(term):
    """Return how many numbers a function without others in it takes."""
    if any(not isinstance(number, int) or number < 0 for number in term[1:]):
        raise BadTerm("places and counts are numbers from nought on")
    if term[0] == "nought":
        return term[1]
    if term[0] == "pick":
        if term[1] >= term[2]:
            raise BadTerm("a pick's place is one of its numbers")
        return term[2]
    return 1


def check_put(term):
    """Return how many numbers a function put together takes."""
    if not isinstance(term[2], (list, tuple)):
        raise BadTerm("inner functions are a row")
    counts = []
    for one in term[2]:
        counts.append(check_function(one))
    if check_function(term[1]) != len(counts) or any(count != counts[0] for count in counts):
        raise BadTerm("the outer function takes as many numbers as there are inner ones, and these take alike")
    # An outer function of no numbers has no inner ones, so it takes none.
    return max(counts, default=0)


class Worker:
    """How many steps are left."""

    def __init__(self, most):
        if most < 0:
            raise BadSize("a count of steps is not below nought")
        self.left = most

    def worth(self, term, row):
        """Return what a function gives for a row of numbers."""
        left = self.left
        try:
            return self.asked(term, tuple(row))
        except NoEnd:
            # What is refused changes nothing.
            self.left = left
            raise

    def asked(self, term, row):
        """Return what a function gives, each worth asked one step."""
        if self.left == 0:
            raise NoEnd("no worth in so many steps")
        self.left -= 1
        if term[0] == "nought":
            return 0
        if term[0] == "next":
            return row[0] + 1
        if term[0] == "pick":
            return row[term[1]]
        if term[0] == "put":
            return self.put_together(term[1], term[2], row)
        if term[0] == "rec":
            return self.counted_up(term[1], term[2], row)
        return self.first_nought(term[1], row)

    def put_together(self, outer, inner, row):
        """Return what an outer function gives for what inner ones give."""
        found = []
        for one in inner:
            found.append(self.asked(one, row))
        return self.asked(outer, tuple(found))

    def counted_up(self, base, step, row):
        """Return what a step gives at last, from the base's worth on, a turn for each below the first number."""
        others = row[1:]
        found = self.asked(base, others)
        for turn in range(row[0]):
            found = self.asked(step, (turn, found) + others)
        return found

    def first_nought(self, test, row):
        """Return the first number for which a test is nought."""
        number = 0
        while self.asked(test, (number,) + row) != 0:
            number += 1
        return number


def worth(term, row, most=5000):
    """Return what a function gives for a row of numbers."""
    if check_function(term) != len(row) or any(number < 0 for number in row):
        raise BadTerm("a function is put to as many numbers as it takes, from nought on")
    return Worker(most).worth(term, row)


def inner_functions(term):
    """Return the functions that stand in one, not those in these."""
    if term[0] == "put":
        return [term[1]] + list(term[2])
    if term[0] in ("rec", "least"):
        return list(term[1:])
    return []


def all_functions(term):
    """Return all functions that stand in one, itself too."""
    found = []
    waiting = [term]
    while len(waiting) > 0:
        here = waiting.pop()
        found.append(here)
        waiting.extend(inner_functions(here))
    return found


def is_plain(term):
    """Tell whether a function has no "least" in it: it always ends."""
    return all([one[0] != "least" for one in all_functions(term)])


def parts_in(term):
    """Return how many functions stand in one, itself too."""
    return len(all_functions(term))


def constant(number, count):
    """Return the function of so many numbers that gives a number."""
    if number < 0 or count < 0:
        raise BadTerm("numbers and counts are not below nought")
    term = ("nought", count)
    for _ in range(number):
        term = ("put", ("next",), (term,))
    return term


def by_steps(term, names, found, room):
    """Return steps of the small language that put a plain function's worth of names in another."""
    if term[0] == "nought":
        return (("nought", found),)
    if term[0] == "next":
        return (("copy", found, names[0]), ("add", found))
    if term[0] == "pick":
        return (("copy", found, names[term[1]]),)
    if term[0] == "put":
        return put_steps(term, names, found, room)
    if term[0] == "rec":
        return rec_steps(term, names, found, room)
    raise BadTerm("a least number is not found by loops")


def put_steps(term, names, found, room):
    """Return the steps of inner functions, each in a fresh name, then of the outer one."""
    inner = tuple([room + place for place in range(len(term[2]))])
    behind = room + len(inner)
    steps = ()
    for name, one in zip(inner, term[2]):
        steps = steps + by_steps(one, names, name, behind)
    return steps + by_steps(term[1], inner, found, behind)


def rec_steps(term, names, found, room):
    """Return the steps of a base, then a loop of the step's: turn, last and new worth in three fresh names."""
    turn, last, fresh = room, room + 1, room + 2
    others = tuple(names[1:])
    first = by_steps(term[1], others, last, room + 3)
    rounds = by_steps(term[2], (turn, last) + others, fresh, room + 3)
    rounds = rounds + (("copy", last, fresh), ("add", turn))
    return first + (("nought", turn), ("loop", names[0], rounds), ("copy", found, last))


def steps_of(term):
    """Return steps that put a plain function's worth of names 0, 1, .. in the name behind them."""
    count = check_function(term)
    if not is_plain(term):
        raise BadTerm("a least number is not found by loops")
    return by_steps(term, tuple(range(count)), count, count + 1)


def adder():
    """Return the function that adds two numbers."""
    return ("rec", ("pick", 0, 1), ("put", ("next",), (("pick", 1, 3),)))


def multiplier():
    """Return the function that multiplies two numbers."""
    # The adder counts up its first number, so the one that doesn't grow stands there.
    return ("rec", ("nought", 1), ("put", adder(), (("pick", 2, 3), ("pick", 1, 3))))


def before():
    """Return the function that gives the number ahead of one, nought for nought."""
    return ("rec", ("nought", 0), ("pick", 0, 2))
