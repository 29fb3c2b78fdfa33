"""Points 8, 17 and 1: functions of numbers, their worths, and the same by steps and by registers."""

import itertools
import unittest

from turingwright.errors import BadSize, BadTerm, NoEnd
from turingwright.recs import (Worker, adder, before, by_steps, check_function, check_put, constant, is_plain,
                               multiplier, parts_in, steps_of, worth)
from turingwright.registers import count_of
from turingwright.whiles import by_registers, carried, check_steps, has_while

NEXT = ("next",)

# The first number less the second, nought at least: the number ahead, as often as the second.
LESS = ("put", ("rec", ("pick", 0, 1), ("put", before(), (("pick", 1, 3),))), (("pick", 1, 2), ("pick", 0, 2)))

# The first root that is no less than a number: the least one whose square the number is not past.
ROOT = ("least", ("put", LESS, (("pick", 1, 2), ("put", multiplier(), (("pick", 0, 2), ("pick", 0, 2))))))

# The factorial: turn and one more, times what was found.
FACTORIAL = ("rec", constant(1, 0), ("put", multiplier(), (("put", NEXT, (("pick", 0, 2),)), ("pick", 1, 2))))

# What a step is given, each of it told apart: a hundred times the turn, ten times what was found, and the other.
TOLD_APART = ("put", adder(), (("put", multiplier(), (constant(100, 3), ("pick", 0, 3))), ("put", adder(), (
    ("put", multiplier(), (constant(10, 3), ("pick", 1, 3))), ("pick", 2, 3)))))

PLAIN = (("nought", 0), ("nought", 2), NEXT, ("pick", 0, 1), ("pick", 1, 3), constant(3, 0), constant(2, 2), adder(),
         multiplier(), before(), LESS, FACTORIAL, ("rec", ("pick", 0, 2), ("pick", 3, 4)),
         ("rec", constant(4, 0), ("pick", 1, 2)), ("rec", ("nought", 1), ("put", NEXT, (("pick", 2, 3),))),
         ("put", NEXT, (adder(),)), ("put", adder(), (adder(), multiplier())), ("put", constant(5, 0), ()),
         ("put", ("pick", 1, 2), (("pick", 1, 2), ("pick", 0, 2))))

BAD = ((), ("what",), ("",), ("nought",), ("nought", -1), ("nought", "a"), ("nought", 1, 1), ("next", 1), ("pick", 0),
       ("pick", 0, 0), ("pick", 1, 1), ("pick", -1, 2), ("pick", "a", 2), ("pick", 0, None), ("pick", 0, 1, 2),
       ("put", NEXT), ("put", NEXT, ()), ("put", NEXT, (NEXT, NEXT)), ("put", adder(), (NEXT,)),
       ("put", adder(), (NEXT, ("pick", 0, 2))), ("put", ("nought", 2), (("nought", 1), ("nought", 0))),
       ("put", NEXT, (("pick", 1, 1),)), ("put", ("pick", 1, 1), (NEXT,)), ("put", NEXT, (NEXT,), NEXT),
       ("put", ("nought", 0), (NEXT,)), ("put", NEXT, 5), ("rec", NEXT), ("rec", NEXT, NEXT),
       ("rec", ("nought", 0), NEXT), ("rec", ("nought", 0), ("pick", 0, 3)), ("rec", NEXT, ("pick", 0, 2)),
       ("rec", ("nought", 0), ("pick", 2, 2)), ("rec", ("what",), ("pick", 0, 2)), ("rec", NEXT, ("pick", 0, 3), NEXT),
       ("least",), ("least", ("nought", 0)), ("least", ("what",)), ("least", constant(1, 0)), ("least", NEXT, NEXT))


def rows_of(count, most=4):
    """Return rows of so many numbers, each below a most."""
    return list(itertools.product(range(most), repeat=count))


def cost_of(term, row):
    """Return how many worths are asked for that of a function."""
    worker = Worker(100000)
    worker.worth(term, row)
    return 100000 - worker.left


class Checked(unittest.TestCase):
    def test_counts(self):
        for term, count in [(("nought", 0), 0), (("nought", 3), 3), (NEXT, 1), (("pick", 2, 5), 5), (adder(), 2),
                            (multiplier(), 2), (before(), 1), (LESS, 2), (ROOT, 1), (("least", NEXT), 0),
                            (("rec", ("nought", 0), ("nought", 2)), 1), (("rec", ("nought", 3), ("nought", 5)), 4),
                            (["put", ["next"], [["pick", 1, 4]]], 4), (("put", ("nought", 0), ()), 0)]:
            with self.subTest(term=term):
                self.assertEqual(check_function(term), count)

    def test_refused(self):
        for term in BAD:
            for one in (term, list(term), ("put", NEXT, (term,)), ("rec", term, ("nought", 3)), ("least", term)):
                with self.subTest(term=one):
                    for deed in (check_function, steps_of, lambda term: worth(term, (1,))):
                        with self.assertRaises(BadTerm):
                            deed(one)

    def test_check_put(self):
        self.assertEqual(check_put(("put", NEXT, (adder(),))), 2)
        self.assertEqual(check_put(["put", adder(), [NEXT, before()]]), 1)
        for term in BAD:
            if term[:1] == ("put",) and len(term) == 3:
                with self.subTest(term=term):
                    with self.assertRaises(BadTerm):
                        check_put(term)

    def test_is_plain(self):
        for term in PLAIN:
            self.assertIs(is_plain(term), True)
        for term in [ROOT, ("least", NEXT), ("put", NEXT, (("pick", 0, 1), ROOT)), ("put", ROOT, (NEXT,)),
                     ("rec", ("least", NEXT), ("nought", 2)), ("rec", ("nought", 0), ("put", ROOT, (("pick", 0, 2),)))]:
            self.assertIs(is_plain(term), False)

    def test_parts_in(self):
        for term, parts in [(NEXT, 1), (("nought", 4), 1), (before(), 3), (adder(), 5), (("least", NEXT), 2),
                            (constant(3, 1), 7), (("put", adder(), (NEXT, before())), 10), (("put", NEXT, (NEXT,)), 3)]:
            self.assertEqual(parts_in(term), parts)


class Worths(unittest.TestCase):
    def test_each_kind(self):
        self.assertEqual(worth(("nought", 0), ()), 0)
        self.assertEqual(worth(("nought", 2), (3, 4)), 0)
        self.assertEqual(worth(NEXT, (3,)), 4)
        self.assertEqual([worth(("pick", place, 3), [5, 6, 7]) for place in range(3)], [5, 6, 7])
        self.assertEqual(worth(("put", NEXT, [("pick", 1, 2)]), (3, 8)), 9)
        self.assertEqual(worth(("put", LESS, (("pick", 1, 2), ("pick", 0, 2))), (3, 8)), 5)
        self.assertEqual(worth(("least", ("put", LESS, (("pick", 1, 2), ("pick", 0, 2)))), (6,)), 6)

    def test_a_rec_is_given_the_turn_what_was_found_and_the_others(self):
        term = ("rec", ("put", NEXT, (("pick", 0, 1),)), TOLD_APART)
        found = 6
        for turn in range(3):
            self.assertEqual(worth(term, (turn, 5), 50000), found)
            found = 100 * turn + 10 * found + 5
        term = ("rec", ("pick", 0, 2), ("pick", 3, 4))
        self.assertEqual([worth(term, (turn, 5, 6)) for turn in range(3)], [5, 6, 6])

    def test_a_least_is_the_first_with_others_behind(self):
        # Nought at three, and from seven on: the first of them is told.
        one = ("put", LESS, (constant(3, 1), ("pick", 0, 1)))
        other = ("put", LESS, (("pick", 0, 1), constant(3, 1)))
        last = ("put", LESS, (constant(7, 1), ("pick", 0, 1)))
        test = ("put", multiplier(), (("put", adder(), (one, other)), last))
        self.assertEqual([worth(test, (number,)) == 0 for number in range(9)],
                         [False, False, False, True, False, False, False, True, True])
        self.assertEqual(worth(("least", test), ()), 3)
        self.assertEqual([worth(ROOT, (number,), 20000) for number in range(11)], [0, 1, 2, 2, 2, 3, 3, 3, 3, 3, 4])
        self.assertEqual(worth(("least", ("pick", 0, 2)), (5,)), 0)
        self.assertEqual(worth(("least", ("nought", 1)), ()), 0)

    def test_each_worth_asked_costs_one(self):
        for term, row, cost in [(("nought", 1), (5,), 1), (NEXT, (5,), 1), (("pick", 0, 1), (5,), 1),
                                (("put", NEXT, (NEXT,)), (5,), 3), (constant(4, 0), (), 9), (before(), (0,), 2),
                                (before(), (4,), 6), (adder(), (0, 7), 2), (adder(), (3, 7), 11),
                                (("put", ("nought", 2), (NEXT, NEXT)), (5,), 4), (("least", ("nought", 1)), (), 2),
                                (("least", ("put", LESS, (("pick", 1, 2), ("pick", 0, 2)))), (0,), 9)]:
            with self.subTest(term=term, row=row):
                self.assertEqual(cost_of(term, row), cost)
                worth(term, row, cost)
                with self.assertRaises(NoEnd):
                    worth(term, row, cost - 1)

    def test_no_end(self):
        with self.assertRaises(NoEnd):
            worth(("least", NEXT), ())
        with self.assertRaises(NoEnd):
            worth(("least", ("pick", 1, 2)), (1,), 300)
        with self.assertRaises(NoEnd):
            worth(("nought", 0), (), 0)
        with self.assertRaises(NoEnd):
            worth(("rec", ("nought", 0), ("pick", 0, 2)), (4999,))
        self.assertEqual(worth(("rec", ("nought", 0), ("pick", 0, 2)), (4998,)), 4997)

    def test_refused(self):
        for term, row in [(NEXT, ()), (NEXT, (1, 2)), (("nought", 0), (1,)), (adder(), (1,)), (NEXT, (-1,)),
                          (adder(), (1, -1)), (("least", NEXT), (1,)), (ROOT, (-1,))]:
            with self.assertRaises(BadTerm):
                worth(term, row)
        with self.assertRaises(BadSize):
            worth(NEXT, (1,), -1)
        with self.assertRaises(BadSize):
            worth(NEXT, (1,), most=-5)


class Workers(unittest.TestCase):
    def test_left(self):
        worker = Worker(5)
        self.assertEqual(worker.left, 5)
        self.assertEqual(worker.worth(NEXT, (3,)), 4)
        self.assertEqual(worker.left, 4)
        self.assertEqual(worker.worth(("put", NEXT, (NEXT,)), [3]), 5)
        self.assertEqual(worker.left, 1)

    def test_refused(self):
        with self.assertRaises(BadSize):
            Worker(-1)

    def test_what_is_refused_changes_nothing(self):
        for term, row in [(adder(), (3, 3)), (("put", NEXT, (("put", NEXT, (NEXT,)),)), (1,)), (("least", NEXT), ())]:
            worker = Worker(4)
            with self.assertRaises(NoEnd):
                worker.worth(term, row)
            self.assertEqual(worker.left, 4)
            worker.worth(NEXT, (1,))
            self.assertEqual(worker.left, 3)
        worker = Worker(0)
        with self.assertRaises(NoEnd):
            worker.worth(NEXT, (1,))
        self.assertEqual(worker.left, 0)


class Made(unittest.TestCase):
    def test_adder_multiplier_and_before(self):
        for one, other in rows_of(2, 8):
            self.assertEqual(worth(adder(), (one, other)), one + other)
            self.assertEqual(worth(multiplier(), (one, other)), one * other)
            self.assertEqual(worth(LESS, (one, other)), max(0, one - other))
        self.assertEqual([worth(before(), (number,)) for number in range(5)], [0, 0, 1, 2, 3])

    def test_constant(self):
        for number, count in itertools.product(range(5), range(4)):
            self.assertEqual(check_function(constant(number, count)), count)
            self.assertEqual(worth(constant(number, count), tuple(range(7, 7 + count))), number)
        self.assertEqual(worth(constant(200, 1), (3,)), 200)

    def test_constant_refused(self):
        for number, count in [(-1, 0), (0, -1), (-1, -1)]:
            with self.assertRaises(BadTerm):
                constant(number, count)


class BySteps(unittest.TestCase):
    def test_the_same_worth_by_steps_and_by_registers(self):
        for term in PLAIN:
            count = check_function(term)
            steps = steps_of(term)
            program = by_registers(steps)
            self.assertEqual(check_steps(steps), steps)
            self.assertFalse(has_while(steps))
            for row in rows_of(count, 4 if count < 3 else 3):
                with self.subTest(term=term, row=row):
                    found = worth(term, row, 20000)
                    left = carried(steps, row, 20000)
                    self.assertEqual(count_of(left, count), found)
                    self.assertEqual([count_of(left, name) for name in range(count)], list(row))
                    self.assertEqual(program.run(row, 200000)[2], left)

    def test_whatever_was_in_the_free_names(self):
        for term in PLAIN:
            count = check_function(term)
            steps = steps_of(term)
            for row in rows_of(count, 3):
                left = carried(steps, row + (9, 8, 7, 6, 5, 4, 3), 20000)
                self.assertEqual(count_of(left, count), worth(term, row, 20000))

    def test_by_steps_from_names_into_another(self):
        for term in PLAIN:
            count = check_function(term)
            # The numbers stand in names 1, 3, 5, the worth goes into name 7, names from 8 on are free.
            names = tuple(range(1, 1 + 2 * count, 2))
            steps = by_steps(term, names, 7, 8)
            self.assertIsInstance(steps, tuple)
            for row in rows_of(count, 3):
                counts = [6] * 8
                for name, number in zip(names, row):
                    counts[name] = number
                left = carried(steps, counts, 20000)
                counts[7] = worth(term, row, 20000)
                self.assertEqual([count_of(left, name) for name in range(8)], counts)

    def test_the_steps(self):
        self.assertEqual(steps_of(("nought", 2)), (("nought", 2),))
        self.assertEqual(steps_of(NEXT), (("copy", 1, 0), ("add", 1)))
        self.assertEqual(steps_of(("pick", 1, 3)), (("copy", 3, 1),))
        self.assertEqual(steps_of(("put", ("pick", 1, 2), (NEXT, ("nought", 1)))),
                         (("copy", 2, 0), ("add", 2), ("nought", 3), ("copy", 1, 3)))

    def test_a_rec_has_its_turn_last_and_new_worth_in_three(self):
        rounds = (("copy", 4, 2), ("copy", 3, 4), ("add", 2))
        self.assertEqual(steps_of(before()), (("nought", 3), ("nought", 2), ("loop", 0, rounds), ("copy", 1, 3)))

    def test_refused(self):
        for term in [ROOT, ("least", NEXT), ("put", NEXT, (ROOT,)), ("put", ROOT, (NEXT,)),
                     ("rec", ("least", NEXT), ("nought", 2)), ("rec", ("nought", 1), ("least", ("nought", 4)))]:
            with self.assertRaises(BadTerm):
                steps_of(term)
            with self.assertRaises(BadTerm):
                by_steps(term, (0, 1), 2, 3)


if __name__ == "__main__":
    unittest.main()
