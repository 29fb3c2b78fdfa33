"""Points 9 and 1: pairs, rows, programs and words told by numbers, told back, and run on numbers alone."""

import itertools
import unittest

from turingwright.codes import (bits_code, bits_of, least_code, pair, parted, picked, program_code, program_of,
                                row_code, row_of, run_code, step_code, step_of, with_number)
from turingwright.errors import BadSize, NoEnd
from turingwright.recs import constant, steps_of, worth
from turingwright.registers import Program, clear, copy, count_of, pour, read_program
from turingwright.whiles import by_registers

GREAT = 10 ** 999 + 12345678901234567890


def ended(deed):
    """Return what a deed gives, None where it comes to no end."""
    try:
        return deed()
    except NoEnd:
        return None


class Pairs(unittest.TestCase):
    def test_along_falling_rows(self):
        rows = [(0, 0), (1, 0), (0, 1), (2, 0), (1, 1), (0, 2), (3, 0), (2, 1), (1, 2), (0, 3), (4, 0)]
        self.assertEqual([parted(number) for number in range(len(rows))], rows)
        self.assertEqual([pair(one, other) for one, other in rows], list(range(len(rows))))

    def test_each_number_is_one_pair_s(self):
        for number in range(5000):
            self.assertEqual(pair(*parted(number)), number)
        self.assertEqual(len({pair(one, other) for one in range(60) for other in range(60)}), 3600)

    def test_great_numbers(self):
        for number in (GREAT, GREAT + 1, 10 ** 1000 - 1, GREAT * (GREAT + 1) // 2 - 1, GREAT * (GREAT + 1) // 2):
            one, other = parted(number)
            self.assertEqual(pair(one, other), number)
            self.assertTrue(one >= 0 and other >= 0)
        self.assertEqual(parted(GREAT * (GREAT + 1) // 2), (GREAT, 0))
        self.assertEqual(parted(GREAT * (GREAT + 1) // 2 - 1), (0, GREAT - 1))
        self.assertEqual(parted(pair(GREAT, 7)), (GREAT, 7))

    def test_refused(self):
        for one, other in [(-1, 0), (0, -1), (-1, -1), (-5, 7), (7, -5)]:
            with self.assertRaises(BadSize):
                pair(one, other)
        for number in (-1, -2, -GREAT):
            with self.assertRaises(BadSize):
                parted(number)


class Rows(unittest.TestCase):
    def test_some(self):
        for row, code in [((), 0), ((0,), 1), ((1,), 2), ((0, 0), 3), ((2,), 4), ((1, 0), 5), ((0, 1), 6)]:
            self.assertEqual(row_code(row), code)
            self.assertEqual(row_of(code), row)
        self.assertEqual(row_code([0, 1]), 6)

    def test_each_number_is_one_row_s(self):
        for number in range(5000):
            self.assertEqual(row_code(row_of(number)), number)
        rows = [row for size in range(4) for row in itertools.product(range(6), repeat=size)]
        self.assertEqual([row_of(row_code(row)) for row in rows], rows)
        self.assertEqual(len({row_code(row) for row in rows}), len(rows))

    def test_noughts_at_the_end_are_told(self):
        self.assertEqual(len({row_code((1,) + (0,) * count) for count in range(7)}), 7)
        self.assertEqual(row_of(row_code((3, 0, 0))), (3, 0, 0))

    def test_great_numbers(self):
        self.assertEqual(row_code(row_of(GREAT)), GREAT)
        self.assertEqual(row_of(row_code((GREAT, 3, GREAT))), (GREAT, 3, GREAT))

    def test_refused(self):
        for row in [(-1,), (0, -1), (3, -2, 4)]:
            with self.assertRaises(BadSize):
                row_code(row)
        for number in (-1, -7):
            with self.assertRaises(BadSize):
                row_of(number)


class Picked(unittest.TestCase):
    def test_picked(self):
        code = row_code((5, 0, 7))
        self.assertEqual([picked(code, place) for place in range(5)], [5, 0, 7, None, None])
        self.assertIsNone(picked(0, 0))
        self.assertIsNone(picked(0, 9))

    def test_with_number(self):
        code = row_code((5, 0, 7))
        for place, row in [(0, (9, 0, 7)), (1, (5, 9, 7)), (2, (5, 0, 9)), (3, (5, 0, 7, 9)), (5, (5, 0, 7, 0, 0, 9))]:
            self.assertEqual(row_of(with_number(code, place, 9)), row)
        self.assertEqual(row_of(with_number(0, 0, 0)), (0,))
        self.assertEqual(row_of(with_number(0, 2, 0)), (0, 0, 0))
        self.assertEqual(row_of(with_number(code, 2, 0)), (5, 0, 0))

    def test_refused(self):
        with self.assertRaises(BadSize):
            picked(-1, 0)
        with self.assertRaises(BadSize):
            picked(-1, 2)
        with self.assertRaises(BadSize):
            with_number(-1, 0, 3)
        with self.assertRaises(BadSize):
            with_number(5, 0, -1)
        with self.assertRaises(BadSize):
            with_number(5, 3, -1)


class Steps(unittest.TestCase):
    def test_some(self):
        self.assertEqual([step_of(number) for number in range(8)],
                         [("add", 0, 0), ("take", 0, 0, 0), ("add", 1, 0), ("take", 1, 0, 0), ("add", 0, 1),
                          ("take", 0, 1, 0), ("add", 2, 0), ("take", 2, 0, 0)])
        self.assertEqual(step_code(("add", 3, 4)), 2 * pair(3, 4))
        self.assertEqual(step_code(("take", 3, 4, 5)), 2 * pair(3, pair(4, 5)) + 1)

    def test_each_number_is_one_row_s(self):
        for number in list(range(3000)) + [GREAT, GREAT + 1]:
            self.assertEqual(step_code(step_of(number)), number)

    def test_refused(self):
        for number in (-1, -2, -3, -GREAT):
            with self.assertRaises(BadSize):
                step_of(number)
        for row in [("add", -1, 0), ("add", 0, -1), ("take", -1, 0, 0), ("take", 0, -1, 0), ("take", 0, 0, -1)]:
            with self.assertRaises(BadSize):
                step_code(row)


class Programs(unittest.TestCase):
    def test_each_number_tells_a_program(self):
        for number in range(3000):
            program = program_of(number)
            self.assertIsInstance(program, Program)
            self.assertEqual(program_code(program), number)

    def test_programs_come_back(self):
        for program in (Program(()), clear(3), pour(0, (1, 2)), copy(0, 1, 2), read_program("+0 1;+1 2;-2 9 4")):
            number = program_code(program)
            self.assertEqual(program_of(number).rows, program.rows)
        self.assertEqual(program_code(Program(())), 0)
        self.assertEqual(program_code(read_program("+0 0")), 1)
        self.assertEqual(program_code(read_program("+0 1")), 11)

    def test_a_thousand_figures(self):
        program = program_of(GREAT)
        self.assertEqual(program_code(program), GREAT)
        self.assertEqual(program_of(program_code(program)).rows, program.rows)

    def test_refused(self):
        with self.assertRaises(BadSize):
            program_of(-1)
        with self.assertRaises(BadSize):
            program_of(-GREAT)


class Runs(unittest.TestCase):
    def test_what_a_number_tells_is_what_the_program_does(self):
        for number in range(600):
            program = program_of(number)
            for counts in [(), (2,), (0, 3), [1, 0, 2, 0]]:
                for most in (0, 1, 2, 9):
                    with self.subTest(number=number, counts=counts, most=most):
                        found = ended(lambda: run_code(number, counts, most))
                        self.assertEqual(found, ended(lambda: program.run(counts, most)))

    def test_longer_programs(self):
        for program, counts in [(pour(0, (1, 2)), (4, 1)), (copy(0, 1, 2), (5, 2)), (clear(2), (1, 1, 6)),
                                (read_program("-0 1 4;-1 2 3;+2 0;+0 9"), (3, 5))]:
            self.assertEqual(run_code(program_code(program), counts, 200), program.run(counts, 200))

    def test_step_by_step(self):
        program = copy(0, 1, 2)
        number = program_code(program)
        rows = program.history((2, 1), 100)
        for steps in range(len(rows) - 1):
            with self.assertRaises(NoEnd):
                run_code(number, (2, 1), steps)
        self.assertEqual(run_code(number, (2, 1), len(rows) - 1), (len(rows) - 1,) + rows[-1])

    def test_counts_are_told_without_noughts_at_the_end(self):
        self.assertEqual(run_code(0, (1, 0, 0), 0), (0, 0, (1,)))
        self.assertEqual(run_code(program_code(clear(1)), [1, 2, 0], 9), (3, 1, (1,)))

    def test_a_function_s_worth_by_the_number_that_tells_it(self):
        for term, row in [(("next",), (4,)), (("pick", 1, 2), (3, 5)), (("nought", 1), (3,)), (constant(2, 0), ())]:
            number = program_code(by_registers(steps_of(term)))
            left = run_code(number, row, 5000)[2]
            self.assertEqual(count_of(left, len(row)), worth(term, row))

    def test_refused(self):
        with self.assertRaises(BadSize):
            run_code(0, (), -1)
        with self.assertRaises(BadSize):
            run_code(-1, (), 5)
        with self.assertRaises(BadSize):
            run_code(11, (0, -1), 5)
        with self.assertRaises(NoEnd):
            run_code(1, (), 50)
        with self.assertRaises(NoEnd):
            run_code(11, (), 0)


class Bits(unittest.TestCase):
    def test_by_length_then_in_order(self):
        words = ["", "0", "1", "00", "01", "10", "11", "000", "001"]
        self.assertEqual([bits_of(number) for number in range(len(words))], words)
        self.assertEqual([bits_code(word) for word in words], list(range(len(words))))

    def test_there_and_back(self):
        for number in list(range(2000)) + [GREAT]:
            self.assertEqual(bits_code(bits_of(number)), number)
        for word in ["0" * 3000, "1" * 3000, "01" * 1500]:
            self.assertEqual(bits_of(bits_code(word)), word)

    def test_refused(self):
        for word in ("2", "0a1", "0 1", "-1", "01b", "1_0"):
            with self.assertRaises(BadSize):
                bits_code(word)
        for number in (-1, -2):
            with self.assertRaises(BadSize):
                bits_of(number)


class Least(unittest.TestCase):
    def test_the_least_is_by_trying_all(self):
        for counts, found in itertools.product([(), (1,), (3, 1), (0, 2)], range(4)):
            tried = [number for number in range(401)
                     if ended(lambda: count_of(program_of(number).run(counts, 20)[2], 0)) == found]
            least = min(tried, default=None)
            self.assertEqual(least_code(counts, found, 400, 20), least)
            if least is not None and least > 0:
                self.assertEqual(least_code(counts, found, least, 20), least)
                self.assertIsNone(least_code(counts, found, least - 1, 20))

    def test_some(self):
        self.assertEqual(least_code((5,), 5, 0, 0), 0)
        self.assertEqual(least_code((), 1, 11, 1), 11)
        self.assertIsNone(least_code((), 1, 11, 0))
        self.assertIsNone(least_code((), 1, 10, 100))

    def test_refused(self):
        for limit, most in [(-1, 0), (0, -1), (-1, -1)]:
            with self.assertRaises(BadSize):
                least_code((), 0, limit, most)


if __name__ == "__main__":
    unittest.main()
