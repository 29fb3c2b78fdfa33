"""Points 15, 17 and 1: machines told by two signs, programs told by tapes, tapes told by three numbers."""

import itertools
import unittest

from turingwright.errors import BadMachine, BadSize, BadTape, NoEnd
from turingwright.machines import HALT, Machine, read_machine
from turingwright.registers import Program, clear, copy, in_turn, pour, read_program, trimmed_counts
from turingwright.tapes import Tape, of_word, read_tape
from turingwright.tells import (Maker, bits_for, by_tape, by_two, counted_run, counted_step, counts_word, go_home,
                                make_row, number_of_side, of_bits, pick_up, run_by_tape, shift_in, shift_out,
                                side_of_number, sign_bits, told_back, told_by_two, word_counts)
from turingwright.whiles import by_registers, multiplying

# Machines of two to nine signs, each row with a move; some have rows that aren't there.
MACHINES = [read_machine(text) for text in (
    "1RB1LB 1LA1RZ", "1RA---", "------", "1RB0LA 0LA0RZ", "1RB2LB1RZ 2LA2RB1LB", "2RB1LA--- 1LB---2RZ",
    "1RB3LA2RZ--- 2LA0RB3RA1RZ", "4RB2LA1RB3LZ0RA 1LA---3RB2RZ4LB",
    "1RA2RA3RA4RA5LA6RA7RA8LA0RZ", "8LB1RA2LB3RA4LB5RA6LB7RA--- 0RA1LB2RA3LB4RA5LB6RA7LB8RZ")]
TAPES = [read_tape(text) for text in ("[0]", "1[0]", "11[1]01", "[1]1", "101[0]0011", "0110[1]")]
PROGRAMS = [read_program(text) for text in (
    "+0 9", "-0 1 1", "-0 0 1", "-1 1 2;+0 0", "-0 1 4;-1 2 3;+2 0;+0 9", "+1 1;-0 0 2;+2 7", "-2 1 2;+0 0;+1 8",
    "+0 0", "-0 1 2;+1 0", "-1 0 3;+2 0")] + [pour(0, (1, 2)), copy(0, 1, 2), in_turn((clear(1), copy(2, 1, 0)))]


def ended(deed):
    """Return what a deed gives, None where it comes to no end."""
    try:
        return deed()
    except NoEnd:
        return None


def made(maker, signs=3):
    """Return the machine of a maker's table."""
    return Machine(maker.count, signs, maker.table)


def tape_of(counts, width):
    """Return the tape that tells so many counts."""
    return of_word(counts_word(tuple(counts) + (0,) * (width - len(counts))))


class Bits(unittest.TestCase):
    def test_bits_for(self):
        self.assertEqual([bits_for(signs) for signs in (2, 3, 4, 5, 8, 9, 16, 17)], [1, 2, 2, 3, 3, 4, 4, 5])

    def test_sign_bits(self):
        self.assertEqual(sign_bits(5, 3), (1, 0, 1))
        self.assertEqual(sign_bits(1, 4), (0, 0, 0, 1))
        self.assertEqual(sign_bits(0, 2), (0, 0))
        for size in range(1, 6):
            rows = [sign_bits(sign, size) for sign in range(2 ** size)]
            self.assertEqual(rows, list(itertools.product((0, 1), repeat=size)))

    def test_of_bits(self):
        self.assertEqual(of_bits((1, 0, 1)), 5)
        self.assertEqual(of_bits([0, 1, 1]), 3)
        self.assertEqual(of_bits(()), 0)

    def test_told_by_two(self):
        tape = told_by_two(Tape((1, 2), 3, (0, 1)), 2)
        self.assertEqual(tape.word(), (1, 0, 0, 1, 1, 1, 0, 0, 0, 1))
        self.assertEqual(tape.shown(), ((1, 0, 0, 1), 1, (1, 0, 0, 0, 1)))
        self.assertEqual(told_by_two(Tape(), 3).shown(), ((), 0, ()))
        self.assertEqual(told_by_two(Tape((1,), 0, (1,)), 1).shown(), ((1,), 0, (1,)))

    def test_there_and_back(self):
        rows = [row for size in range(3) for row in itertools.product(range(3), repeat=size)]
        for left, here, right in itertools.product(rows, range(3), rows):
            for size in (2, 3):
                tape = Tape(left, here, right)
                self.assertEqual(told_back(told_by_two(tape, size), size).shown(), tape.shown())

    def test_told_back(self):
        self.assertEqual(told_back(read_tape("1001[1]10001"), 2).shown(), ((1, 2), 3, (0, 1)))
        self.assertEqual(told_back(read_tape("1[0]"), 2).shown(), ((1,), 0, ()))
        self.assertEqual(told_back(read_tape("10[0]001"), 2).shown(), ((2,), 0, (1,)))

    def test_told_back_refused(self):
        for text in ("[2]", "2[0]", "[0]12", "1[1]3"):
            for size in (1, 2):
                with self.assertRaises(BadTape):
                    told_back(read_tape(text), size)


class ByTwo(unittest.TestCase):
    def test_its_signs_and_states(self):
        for machine in MACHINES:
            told, size = by_two(machine)
            self.assertEqual((told.signs, size), (2, bits_for(machine.signs)))
            self.assertGreaterEqual(told.states, machine.states)

    def test_a_machine_of_two_signs_is_itself(self):
        for machine in MACHINES[:4]:
            self.assertEqual(by_two(machine)[0].shown(), machine.shown())

    def test_step_by_step(self):
        for machine, tape in itertools.product(MACHINES, TAPES):
            told, size = by_two(machine)
            rows = told.history(told_by_two(tape, size), 600)
            own = [(state, told_back(one, size).shown()) for state, one in rows if 0 <= state < machine.states]
            first = machine.history(tape, 20)
            kept = [(state, one.shown()) for state, one in first if state != HALT]
            self.assertEqual(own[:len(kept)], kept)
            if machine.step(*first[-1]) is None:
                self.assertEqual(len(own), len(kept))
                self.assertEqual(told_back(rows[-1][1], size).shown(), first[-1][1].shown())
                self.assertIsNone(told.step(*rows[-1]))

    def test_a_row_that_is_not_there_goes_back_to_the_first_and_halts(self):
        told, size = by_two(Machine(1, 4, {}))
        for sign in range(4):
            tape = told_by_two(Tape((1,), sign, (2,)), size)
            steps, state, left = told.run(tape, 99)
            self.assertEqual((steps, state, left.shown()), (2, HALT, tape.shown()))
        told, size = by_two(Machine(1, 9, {}))
        self.assertEqual(told.run(told_by_two(Tape((), 8), size), 99)[0], 6)

    def test_refused(self):
        for text in ("1NA---", "1RB1LB 1NA1RZ", "------ ---0NZ"):
            with self.assertRaises(BadMachine):
                by_two(read_machine(text))

    def test_the_machine_is_left_as_it_was(self):
        machine = read_machine("1RB2LB1RZ 2LA2RB1LB")
        shown = machine.shown()
        by_two(machine)
        self.assertEqual(machine.shown(), shown)


class Makers(unittest.TestCase):
    def test_fields(self):
        maker = Maker(3)
        self.assertEqual((maker.count, maker.table), (3, {}))
        self.assertEqual([maker.fresh(), maker.fresh()], [3, 4])
        self.assertEqual((maker.count, maker.table), (5, {}))

    def test_tables_are_their_own(self):
        one, other = Maker(1), Maker(1)
        one.table[(0, 0)] = (1, 1, 0)
        self.assertEqual(other.table, {})

    def test_going(self):
        for move, place in [(1, 5), (-1, 1)]:
            maker = Maker(1)
            state, way = maker.going(move, HALT, 2)
            self.assertEqual(way, move)
            start = of_word((1, 0, 1, 1, 0, 1), 3).move(way)
            self.assertEqual(made(maker, 2).run(start, 9, state)[2].shown(), of_word((1, 0, 1, 1, 0, 1), place).shown())
        self.assertEqual(Maker(4).going(-1, 2, 1), (2, -1))

    def test_go_back(self):
        maker = Maker(1)
        maker.go_back(0, 1, 3)
        self.assertEqual(made(maker, 2).run(of_word((0, 1, 0, 1), 3), 9)[1:][0], HALT)
        self.assertEqual(made(maker, 2).run(of_word((1, 1, 0, 1), 3), 9)[2].shown(), of_word((1, 1, 0, 1), 1).shown())
        maker = Maker(1)
        maker.go_back(0, 1, 1)
        self.assertEqual((maker.count, maker.table), (1, {}))

    def test_write_back(self):
        for move, place in [(1, 6), (-1, 0)]:
            maker = Maker(1)
            maker.write_back((5, move, HALT), 0, 0, 3)
            tape = made(maker, 2).run(of_word((1, 1, 1, 0, 1, 0, 1, 1, 1), 5), 20)[2]
            self.assertEqual(tape.shown(), of_word((1, 1, 1, 1, 0, 1, 1, 1, 1), place).shown())

    def test_read_from(self):
        machine = Machine(2, 4, {(1, 3): (2, 1, HALT)})
        maker = Maker(2)
        maker.read_from(machine, 1, 0, (1,), 2)
        # The first place was read: its sign is three where a one is here.
        tape = made(maker, 2).run(of_word((1, 1, 0, 0), 1), 20)[2]
        self.assertEqual(tape.shown(), of_word((1, 0, 0, 0), 2).shown())
        tape = made(maker, 2).run(of_word((1, 0, 1, 0), 1), 20)[2]
        self.assertEqual(tape.shown(), of_word((1, 0, 1, 0), 0).shown())


class CountsAndWords(unittest.TestCase):
    def test_counts_word(self):
        self.assertEqual(counts_word((2, 0, 1)), (2, 1, 1, 2, 2, 1, 2))
        self.assertEqual(counts_word([0]), (2, 2))
        self.assertEqual(counts_word(()), (2,))

    def test_word_counts(self):
        for counts in [(), (0,), (3,), (2, 0, 1), (0, 0, 4), (1, 0)]:
            self.assertEqual(word_counts(counts_word(counts)), counts)
            self.assertEqual(word_counts(list(counts_word(counts)) + [0, 0]), counts)

    def test_word_counts_refused(self):
        for word in [(), (0,), (1,), (2, 1), (1, 2), (2, 3, 2), (2, 0, 2), (0, 2, 1, 2), (2, 1, 1, 0), (2, 1, 0, 2, 0),
                     (3,), (2, -1, 2)]:
            with self.subTest(word=word):
                with self.assertRaises(BadTape):
                    word_counts(word)


class ByTape(unittest.TestCase):
    def test_step_by_step(self):
        for program in PROGRAMS:
            width = max(3, program.width())
            machine = by_tape(program, width)
            self.assertEqual(machine.signs, 3)
            for counts in itertools.product(range(3), repeat=3):
                rows = program.history(counts, 12)
                state, tape = 0, tape_of(counts, width)
                for place, left in rows:
                    while state >= len(program.rows):
                        state, tape = machine.step(state, tape)
                    self.assertEqual(state, place if place < len(program.rows) else HALT)
                    self.assertEqual(tape.left, ())
                    self.assertEqual(trimmed_counts(word_counts(tape.word())), left)
                    if state != HALT:
                        state, tape = machine.step(state, tape)

    def test_by_two_signs_too(self):
        for program in PROGRAMS[1:5]:
            machine = by_tape(program, 3)
            told, size = by_two(machine)
            for counts in [(), (2, 1), (1, 2, 3)]:
                tape = told.run(told_by_two(tape_of(counts, 3), size), 99999)[2]
                self.assertEqual(told_back(tape, size).shown(), machine.run(tape_of(counts, 3), 9999)[2].shown())

    def test_refused(self):
        for program, width in [(Program((("add", 2, 0),)), 2), (Program(()), 2), (Program((("add", 0, 1),)), 0),
                               (Program((("take", 5, 0, 0),)), 5), (Program(()), 0), (Program((("add", 0, 1),)), -1)]:
            with self.assertRaises(BadMachine):
                by_tape(program, width)
            with self.assertRaises(BadMachine):
                run_by_tape(program, (), width, 99)
        self.assertEqual(by_tape(Program((("add", 2, 0),)), 3).signs, 3)

    def test_run_by_tape(self):
        for program in PROGRAMS:
            for counts in [(), (3,), (1, 2), (2, 1, 3), [0, 4, 0]]:
                found = ended(lambda: program.run(counts, 60))
                if found is not None:
                    self.assertEqual(run_by_tape(program, counts, 4, 99999), found[2])
        with self.assertRaises(NoEnd):
            run_by_tape(read_program("+0 0"), (), 1, 500)
        with self.assertRaises(NoEnd):
            run_by_tape(read_program("+0 1"), (), 1, 0)

    def test_a_product_by_a_tape(self):
        program = by_registers(multiplying(0, 1, 2))
        self.assertEqual(run_by_tape(program, (2, 3), program.width(), 99999), program.run((2, 3), 9999)[2])

    def test_run_by_tape_refused(self):
        with self.assertRaises(BadMachine):
            run_by_tape(read_program("+0 1"), (1, 2), 1, 99)
        with self.assertRaises(BadSize):
            run_by_tape(read_program("+0 1"), (1,), 1, -1)


class Rows(unittest.TestCase):
    def test_make_row(self):
        for row, counts, state, left in [(("add", 1, 5), (1, 2, 1), 1, (1, 3, 1)),
                                         (("take", 1, 5, 6), (1, 2, 1), 1, (1, 1, 1)),
                                         (("take", 1, 5, 6), (1, 0, 1), 2, (1, 0, 1))]:
            maker = Maker(3)
            make_row(maker, 0, row, (1, 2), 3)
            steps, found, tape = made(maker).run(tape_of(counts, 3), 999)
            self.assertEqual((found, tape.left, word_counts(tape.word())), (state, (), left))

    def test_shift_in(self):
        maker = Maker(2)
        shift_in(maker, 0, 2, 1, 1)
        # A two and another are ahead of the head, two from it on.
        for word, place, after in [((2, 1, 2, 1, 2, 2), 3, (2, 1, 2, 1, 1, 2, 2)),
                                   ((2, 2, 2, 1, 2), 2, (2, 2, 1, 2, 1, 2))]:
            steps, state, tape = made(maker).run(of_word(word, place), 999)
            self.assertEqual((state, tape.left, tape.word()), (1, (), after))

    def test_shift_out(self):
        maker = Maker(2)
        shift_out(maker, 0, 2, 1, 1)
        for word, place, after in [((2, 1, 2, 1, 1, 2, 2), 4, (2, 1, 2, 1, 2, 2)),
                                   ((2, 2, 1, 2, 1, 1, 2), 3, (2, 2, 2, 1, 1, 2)),
                                   ((2, 2, 1, 1, 1, 2, 2), 3, (2, 2, 1, 1, 2, 2))]:
            steps, state, tape = made(maker).run(of_word(word, place), 999)
            self.assertEqual((state, tape.left, tape.word()), (1, (), after))

    def test_pick_up(self):
        maker = Maker(4)
        pick_up(maker, 0, 2, {(1, 2): 1, (2, 1): 2}, 3)
        self.assertEqual(made(maker).run(of_word((2, 1, 2, 2), 1), 9)[1:][0], 1)
        self.assertEqual(made(maker).run(of_word((2, 1, 2, 2), 1), 9)[2].shown(), of_word((1, 1, 2, 2), 2).shown())
        self.assertEqual(made(maker).run(of_word((2, 1, 2, 2), 2), 9)[1:][0], 2)
        self.assertEqual(made(maker).run(of_word((2, 1, 2, 2), 2), 9)[2].shown(), of_word((2, 2, 2, 2), 3).shown())
        maker = Maker(4)
        pick_up(maker, 0, 1, {(1, 1): 1}, 3)
        self.assertEqual(made(maker).run(of_word((2, 1, 2), 2), 9)[1:][0], 3)
        self.assertEqual(made(maker).run(of_word((2, 1, 2), 2), 9)[2].shown(), of_word((2, 2), 0).shown())

    def test_go_home(self):
        for twos, place in [(0, 1), (1, 3), (2, 5), (0, 0), (1, 2), (2, 4)]:
            maker = Maker(1)
            state = go_home(maker, twos, 0)
            steps, found, tape = made(maker).run(of_word((2, 1, 2, 1, 2, 1), place), 99, state)
            self.assertEqual((found, tape.shown()), (0, of_word((2, 1, 2, 1, 2, 1)).shown()))


class ThreeNumbers(unittest.TestCase):
    def test_sides(self):
        self.assertEqual(number_of_side((1, 0, 2), 3), 19)
        self.assertEqual(number_of_side((), 3), 0)
        self.assertEqual(side_of_number(19, 3), (1, 0, 2))
        self.assertEqual(side_of_number(0, 3), ())
        for number in range(300):
            for signs in (2, 3, 7):
                self.assertEqual(number_of_side(side_of_number(number, signs), signs), number)

    def test_counted_step(self):
        machine = read_machine("1RB2LA--- 0NZ2RA1LB")
        self.assertEqual(counted_step(machine, 0, (5, 0, 7)), (1, (16, 1, 2)))
        self.assertEqual(counted_step(machine, 0, (5, 1, 7)), (0, (1, 2, 23)))
        self.assertEqual(counted_step(machine, 1, (5, 0, 7)), (HALT, (5, 0, 7)))
        self.assertIsNone(counted_step(machine, 0, (5, 2, 7)))
        self.assertIsNone(counted_step(machine, HALT, (5, 0, 7)))

    def test_step_by_step(self):
        for machine, tape in itertools.product(MACHINES + [read_machine("1NB0NA 1RZ0LA")], TAPES):
            state = 0
            counts = (number_of_side(tape.left, machine.signs), tape.here, number_of_side(tape.right, machine.signs))
            for own, one in machine.history(tape, 25)[1:]:
                state, counts = counted_step(machine, state, counts)
                left, here, right = counts
                self.assertEqual(state, own)
                self.assertEqual((side_of_number(left, machine.signs), here, side_of_number(right, machine.signs)),
                                 one.shown())

    def test_counted_run(self):
        for machine, tape in itertools.product(MACHINES, TAPES):
            for most in (0, 1, 5, 60):
                found = ended(lambda: machine.run(tape, most))
                told = ended(lambda: counted_run(machine, tape, most))
                self.assertEqual(found is None, told is None)
                if found is not None:
                    self.assertEqual(told[:2], found[:2])
                    self.assertEqual(told[2].shown(), found[2].shown())

    def test_no_end(self):
        with self.assertRaises(NoEnd):
            counted_run(read_machine("1RA1RA"), Tape(), 100)
        with self.assertRaises(NoEnd):
            counted_run(MACHINES[0], Tape(), 5)
        self.assertEqual(counted_run(MACHINES[0], Tape(), 6)[:2], (6, HALT))


if __name__ == "__main__":
    unittest.main()
