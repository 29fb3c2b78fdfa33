"""Points 6 and 17: programs of counts, their runs, how they are put together, and their texts."""

import itertools
import unittest

from turingwright.errors import BadMachine, BadSize, BadText, NoEnd
from turingwright.registers import (Program, clear, copy, count_of, in_turn, moved, pour, read_program, times_over,
                                    told_program, trimmed_counts, while_not, with_count)

# It pours slot nought into slot one.
POUR = (("take", 0, 1, 2), ("add", 1, 0))


def left_by(program, counts, most=2000):
    """Return the counts that a program leaves."""
    return program.run(counts, most)[2]


def some_programs():
    """Return programs of up to two rows, with ends far behind, too."""
    rows = [("add", slot, after) for slot in (0, 1) for after in (0, 1, 5)]
    rows += [("take", 0, one, other) for one in (0, 1, 7) for other in (1, 2, 9)]
    return [Program(some) for size in (0, 1, 2) for some in itertools.product(rows, repeat=size)]


class Fields(unittest.TestCase):
    def test_rows(self):
        program = Program([["take", 0, 1, 2], ["add", 1, 0]])
        self.assertEqual(program.rows, POUR)
        self.assertIsInstance(program.rows, tuple)
        self.assertEqual([type(row) for row in program.rows], [tuple, tuple])
        self.assertEqual(program.shown(), POUR)
        self.assertEqual(Program(()).rows, ())

    def test_the_rows_are_its_own(self):
        rows = [["add", 1, 0]]
        program = Program(rows)
        rows[0][1] = 5
        rows.append(["add", 1, 0])
        self.assertEqual(program.rows, (("add", 1, 0),))

    def test_width(self):
        self.assertEqual(Program(()).width(), 0)
        self.assertEqual(Program((("add", 0, 9),)).width(), 1)
        self.assertEqual(Program((("take", 4, 9, 9), ("add", 2, 0))).width(), 5)

    def test_refused(self):
        for row in [("put", 0, 1), ("", 0, 1), (), ("add",), ("add", 0), ("add", 0, 1, 2), ("take", 0, 1),
                    ("take", 0, 1, 2, 3), ("add", -1, 0), ("add", 0, -1), ("take", -1, 0, 0), ("take", 0, -1, 0),
                    ("take", 0, 0, -1), ("add", "0", 1), ("add", 0, None), ("take", 0, (0,), 1)]:
            for rows in ((row,), (("add", 0, 1), row), [list(row)]):
                with self.subTest(rows=rows):
                    with self.assertRaises(BadMachine):
                        Program(rows)


class Counts(unittest.TestCase):
    def test_count_of(self):
        self.assertEqual([count_of((3, 0, 5), slot) for slot in range(5)], [3, 0, 5, 0, 0])
        self.assertEqual(count_of((), 0), 0)

    def test_trimmed_counts(self):
        self.assertEqual(trimmed_counts([1, 0, 2, 0, 0]), (1, 0, 2))
        self.assertEqual(trimmed_counts((0, 0)), ())
        self.assertEqual(trimmed_counts(()), ())

    def test_with_count(self):
        self.assertEqual(with_count((1, 2), 0, 5), (5, 2))
        self.assertEqual(with_count((), 2, 5), (0, 0, 5))
        self.assertEqual(with_count((1, 2), 1, 0), (1,))
        self.assertEqual(with_count((0, 2), 1, 0), ())
        self.assertEqual(with_count((1, 0, 0), 1, 4), (1, 4))
        self.assertEqual(with_count([1], 4, 0), (1,))

    def test_with_count_leaves_what_it_is_of(self):
        counts = [1, 2]
        self.assertEqual(with_count(counts, 0, 7), (7, 2))
        self.assertEqual(counts, [1, 2])


class Runs(unittest.TestCase):
    def test_step(self):
        program = Program((("add", 2, 5), ("take", 1, 3, 4)))
        self.assertEqual(program.step(0, ()), (5, (0, 0, 1)))
        self.assertEqual(program.step(0, [1, 1, 1]), (5, (1, 1, 2)))
        self.assertEqual(program.step(1, (0, 2)), (3, (0, 1)))
        self.assertEqual(program.step(1, (0, 1)), (3, ()))
        self.assertEqual(program.step(1, (1, 0, 0)), (4, (1,)))
        self.assertEqual(program.step(1, ()), (4, ()))

    def test_step_at_an_end(self):
        program = Program(POUR)
        for place in (2, 3, 99, -1):
            self.assertIsNone(program.step(place, (1,)))
        self.assertIsNone(Program(()).step(0, ()))

    def test_run(self):
        self.assertEqual(Program(POUR).run((3, 1), 7), (7, 2, (0, 4)))
        self.assertEqual(Program(()).run([2, 0], 0), (0, 0, (2,)))
        self.assertEqual(Program((("add", 1, 8),)).run((), 1), (1, 8, (0, 1)))
        self.assertEqual(Program((("take", 0, 8, 9),)).run((0, 0), 1), (1, 9, ()))

    def test_run_without_an_end(self):
        with self.assertRaises(NoEnd):
            Program(POUR).run((3, 1), 6)
        with self.assertRaises(NoEnd):
            Program((("add", 0, 0),)).run((), 100)
        with self.assertRaises(NoEnd):
            Program((("add", 0, 1),)).run((), 0)

    def test_run_refused(self):
        for counts, most in [((), -1), ((-1,), 5), ((1, -1, 2), 5)]:
            with self.assertRaises(BadSize):
                Program(POUR).run(counts, most)
            with self.assertRaises(BadSize):
                Program(()).run(counts, most)

    def test_history(self):
        rows = ((0, (2,)), (1, (1,)), (0, (1, 1)), (1, (0, 1)), (0, (0, 2)), (2, (0, 2)))
        self.assertEqual(Program(POUR).history([2, 0], 99), rows)
        self.assertEqual(Program(POUR).history((2,), 5), rows)
        self.assertEqual(Program(POUR).history((2,), 3), rows[:4])
        self.assertEqual(Program(POUR).history((2,), 0), rows[:1])
        self.assertEqual(Program(()).history((0,), 9), ((0, ()),))

    def test_history_refused(self):
        with self.assertRaises(BadSize):
            Program(POUR).history((1,), -1)

    def test_history_and_run_are_alike(self):
        for program in some_programs():
            rows = program.history((1, 2), 20)
            if program.step(*rows[-1]) is None:
                self.assertEqual(program.run((1, 2), 20), (len(rows) - 1,) + rows[-1])
            else:
                with self.assertRaises(NoEnd):
                    program.run((1, 2), 20)


class PutTogether(unittest.TestCase):
    def test_moved(self):
        program = Program((("take", 0, 1, 7), ("add", 1, 0), ("add", 1, 3)))
        rows = (("take", 0, 5, 7), ("add", 1, 4), ("add", 1, 7))
        self.assertIsInstance(moved(program, 4), Program)
        self.assertEqual(moved(program, 4).rows, rows)
        self.assertEqual(moved(program, 0).rows, (("take", 0, 1, 3), ("add", 1, 0), ("add", 1, 3)))
        self.assertEqual(moved(Program(()), 3).rows, ())
        self.assertEqual(program.rows[0], ("take", 0, 1, 7))

    def test_moved_refused(self):
        with self.assertRaises(BadMachine):
            moved(Program((("add", 0, 0),)), -1)

    def test_in_turn(self):
        program = in_turn([Program((("add", 0, 9),)), Program(()), Program((("take", 0, 5, 1), ("add", 1, 0)))])
        self.assertEqual(program.rows, (("add", 0, 1), ("take", 0, 3, 2), ("add", 1, 1)))
        self.assertEqual(in_turn(()).rows, ())

    def test_in_turn_does_one_behind_another(self):
        programs = some_programs()
        for one, other, third in zip(programs[::3], programs[5::2], reversed(programs)):
            counts, steps = (2, 1), 0
            try:
                for program in (one, other, third):
                    done, _, counts = program.run(counts, 60)
                    steps += done
            except NoEnd:
                with self.assertRaises(NoEnd):
                    in_turn((one, other, third)).run((2, 1), 60)
                continue
            program = in_turn((one, other, third))
            self.assertEqual(program.run((2, 1), 180), (steps, len(program.rows), counts))

    def test_clear(self):
        self.assertEqual(left_by(clear(1), (3, 4, 5)), (3, 0, 5))
        self.assertEqual(left_by(clear(1), (3, 4)), (3,))
        self.assertEqual(left_by(clear(7), (3,)), (3,))
        with self.assertRaises(BadMachine):
            clear(-1)

    def test_pour(self):
        self.assertEqual(left_by(pour(0, (1, 2)), (3, 1)), (0, 4, 3))
        self.assertEqual(left_by(pour(0, (1, 2, 1)), (3, 1)), (0, 7, 3))
        self.assertEqual(left_by(pour(2, [0]), (3, 1, 4)), (7, 1))
        self.assertEqual(left_by(pour(2, ()), (3, 1, 4)), (3, 1))
        self.assertEqual(left_by(pour(2, (0, 1)), (3, 1)), (3, 1))

    def test_pour_goes_into_each_in_turn_for_each_one_taken(self):
        rows = [counts for place, counts in pour(0, (2, 1)).history((2,), 99)]
        self.assertEqual(rows, [(2,), (1,), (1, 0, 1), (1, 1, 1), (0, 1, 1), (0, 1, 2), (0, 2, 2), (0, 2, 2)])

    def test_pour_refused(self):
        for slot, others in [(0, (0,)), (2, (1, 2)), (1, [1, 1])]:
            with self.assertRaises(BadMachine):
                pour(slot, others)

    def test_copy(self):
        for slot, other, room in itertools.permutations(range(3)):
            counts = [0, 0, 0]
            counts[slot], counts[other] = 4, 3
            left = list(counts)
            left[other] = 7
            self.assertEqual(left_by(copy(slot, other, room), counts), trimmed_counts(left))

    def test_copy_refused(self):
        for slots in [(0, 0, 1), (0, 1, 0), (1, 0, 0), (2, 2, 2)]:
            with self.assertRaises(BadMachine):
                copy(*slots)

    def test_while_not(self):
        inner = in_turn((Program((("take", 0, 4, 4),)), Program((("add", 1, 1), ("add", 1, 2)))))
        for count in range(5):
            self.assertEqual(left_by(while_not(0, inner), (count, 1)), (0, 1 + 2 * count))

    def test_while_not_looks_ahead_of_each_round(self):
        halved = in_turn((Program((("take", 0, 1, 1), ("take", 0, 2, 2))), Program((("add", 1, 1),))))
        for count in range(7):
            self.assertEqual(left_by(while_not(0, halved), (count,)), trimmed_counts((0, (count + 1) // 2)))

    def test_while_not_of_what_does_nothing(self):
        self.assertEqual(left_by(while_not(0, Program(())), (0, 3)), (0, 3))
        for inner in (Program(()), Program((("add", 0, 1), ("take", 0, 7, 7))), Program((("take", 1, 9, 9),))):
            with self.assertRaises(NoEnd):
                while_not(0, inner).run((1,), 500)

    def test_times_over(self):
        inner = Program((("add", 1, 1), ("add", 2, 8)))
        for count in range(5):
            self.assertEqual(left_by(times_over(0, inner), (count, 1)), trimmed_counts((0, 1 + count, count)))
        self.assertEqual(left_by(times_over(1, Program(())), (2, 3, 4)), (2, 0, 4))

    def test_times_over_goes_on_till_it_is_nought(self):
        taking = Program((("take", 0, 1, 1), ("add", 1, 2)))
        for count in range(7):
            self.assertEqual(left_by(times_over(0, taking), (count,)), trimmed_counts((0, (count + 1) // 2)))
        with self.assertRaises(NoEnd):
            times_over(0, Program((("add", 0, 1),))).run((1,), 500)

    def test_one_in_another(self):
        # For each one of slot 0, slot 1 is copied to slot 2 by slot 3.
        product = times_over(0, copy(1, 2, 3))
        for one, other in itertools.product(range(4), repeat=2):
            self.assertEqual(left_by(product, (one, other)), trimmed_counts((0, other, one * other)))
        emptied = while_not(0, in_turn((times_over(1, Program((("add", 2, 1),))), Program((("take", 0, 1, 1),)))))
        self.assertEqual(left_by(emptied, (3, 4)), (0, 0, 4))

    def test_ends_stand_right_behind(self):
        for program in (clear(0), pour(0, (1, 2)), copy(0, 1, 2), while_not(0, clear(0)), times_over(0, clear(1)),
                        while_not(0, Program((("take", 0, 50, 60),))), times_over(0, Program((("add", 1, 70),)))):
            self.assertEqual(program.run((3, 2), 99)[1], len(program.rows))


class Texts(unittest.TestCase):
    def test_told(self):
        self.assertEqual(told_program(Program(POUR)), "-0 1 2;+1 0")
        self.assertEqual(told_program(Program((("add", 10, 203),))), "+10 203")
        self.assertEqual(told_program(Program(())), "")

    def test_read(self):
        self.assertEqual(read_program("-0 1 2;+1 0").rows, POUR)
        self.assertEqual(read_program("").rows, ())
        self.assertEqual(read_program("+0007 9999").rows, (("add", 7, 9999),))

    def test_told_and_read_again(self):
        for program in some_programs():
            self.assertEqual(read_program(told_program(program)).rows, program.rows)

    def test_read_refused(self):
        for text in [" ", ";", "+0 1;", ";+0 1", "+0 1;;+0 1", "0 1", "*0 1", "+", "-", "+0", "+0 1 2", "-0 1",
                     "-0 1 2 3", "+a 1", "+0 1a", "+0 1a1", "+0 -1", "+0 +1", "+12345 1", "+0 00001", "-0 1 12345",
                     "+ 1", "+ 0 1", "+0  1", "+0 1 ", " +0 1", "+0 1; +0 1", "+0\t1", "+0 1\n", "+0,1", "add 0 1"]:
            with self.subTest(text=text):
                with self.assertRaises(BadText):
                    read_program(text)


if __name__ == "__main__":
    unittest.main()
