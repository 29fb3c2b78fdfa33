"""Point 1: told another way, a machine, a program or a function does the same; each refusal keeps its kind."""

import itertools
import random
import unittest

from turingwright.beavers import all_machines
from turingwright.cells import Cells, orphan, ring_kinds
from turingwright.codes import pair, program_code, program_of, run_code
from turingwright.desks import Desk, done_again
from turingwright.errors import (BadMachine, BadPaper, BadSize, BadStore, BadTape, BadTerm, BadText, MachineFault,
                                 NoEnd, NoSuch)
from turingwright.machines import HALT, Machine, read_machine
from turingwright.papers import check_decided, check_ring, decide
from turingwright.posts import check_laid, check_pairs
from turingwright.recs import adder, constant, multiplier, steps_of, worth
from turingwright.registers import Program, clear, copy, count_of, pour, read_program
from turingwright.rules import bare_word, by_first, check_way, first_after, of_machine, same_word, word_of
from turingwright.tags import Rounds, Tag
from turingwright.tapes import Tape, of_word, read_tape
from turingwright.tells import (by_tape, by_two, counted_run, counted_step, counts_word, number_of_side, run_by_tape,
                                side_of_number, told_back, told_by_two, word_counts)
from turingwright.terms import ended, number_of, numeral, product_term, put_all, read_term, sum_term
from turingwright.whiles import by_registers, carried

NEXT = ("next",)

# What is refused, and the kind it is refused by.
REFUSED = (
    (BadMachine, lambda: Machine(0, 2, {})), (BadMachine, lambda: Program((("add", -1, 0),))),
    (BadMachine, lambda: Cells(256)), (BadMachine, lambda: Tag(0, {})), (BadMachine, lambda: check_pairs(())),
    (BadMachine, lambda: by_two(read_machine("0NA---"))), (BadTape, lambda: Tape((), -1)),
    (BadTape, lambda: read_tape("0")), (BadTape, lambda: word_counts((1,))), (BadTape, lambda: bare_word("")),
    (BadTape, lambda: Rounds(["1"]).run("2", 5)), (BadTerm, lambda: worth(NEXT, ())),
    (BadTerm, lambda: ended("X", 5)), (BadTerm, lambda: numeral(-1)),
    (BadPaper, lambda: check_laid((("a", "b"),), (0,))), (BadPaper, lambda: check_way((), "a", ((0, 0),))),
    (BadPaper, lambda: check_ring(read_machine("1RA1RA"), (0, 1))), (BadSize, lambda: pair(-1, 0)),
    (BadSize, lambda: ring_kinds(Cells(0), 11)), (BadSize, lambda: orphan(Cells(0), -1)),
    (BadText, lambda: read_term("")), (BadText, lambda: read_program("x")), (BadText, lambda: read_machine("")),
    (BadText, lambda: Desk().do("what")), (NoSuch, lambda: Desk().do("rows")),
    (BadStore, lambda: done_again("0 rows 1\n")), (NoEnd, lambda: read_machine("1RA1RA").run(Tape(), 9)),
    (NoEnd, lambda: run_code(1, (), 9)), (NoEnd, lambda: ended(read_term("SII(SII)"), 9)))


def some_machines():
    """Return machines with a move in each row: all of two states, as they are grown, and some by chance."""
    machines = [machine for machine, told in all_machines(2, 2, 12, 1)]
    chance = random.Random(11)
    for _ in range(60):
        states, signs = chance.randint(1, 3), chance.randint(2, 5)
        keys = [key for key in itertools.product(range(states), range(signs)) if chance.random() < 0.9]
        machines.append(Machine(states, signs, {key: (chance.randrange(signs), chance.choice((-1, 1)),
                                                      chance.randrange(-1, states)) for key in keys}))
    return machines


def some_tapes(signs):
    """Return some tapes of so many signs."""
    return [Tape(), Tape((1,), 1, (0, 1)), Tape((signs - 1, 0, 1), 0, (1, signs - 1)), Tape((), signs - 1, (1, 1, 1))]


def rules_of_program(program, width):
    """Return rules that do a program on words "[", a sign for its row, ones for each count, commas behind, "]"."""
    size = len(program.rows) + 1
    # Signs of its own: for a row so many commas on, and for going home to a row.
    walk = {(row, slot): chr(1000 + row * width + slot) for row in range(size) for slot in range(width)}
    home = {row: chr(5000 + row) for row in range(size)}
    rules = []
    for place, row in enumerate(program.rows):
        slot, nexts = row[1], [home[min(after, size - 1)] for after in row[2:]]
        at = walk[(place, slot)]
        if row[0] == "add":
            rules.append((at, nexts[0] + "1"))
        else:
            rules.extend([(at + "1", nexts[0]), (at, nexts[1])])
        for far in range(slot):
            rules.extend([(walk[(place, far)] + "1", "1" + walk[(place, far)]),
                          (walk[(place, far)] + ",", "," + walk[(place, far + 1)])])
    for row, sign in home.items():
        rules.extend([("1" + sign, sign + "1"), ("," + sign, sign + ","), ("[" + sign, "[" + walk[(row, 0)])])
    return rules


def word_of_counts(counts, width):
    """Return the word of counts ahead of a program's first row."""
    return "[" + chr(1000) + "".join(["1" * count_of(counts, slot) + "," for slot in range(width)]) + "]"


class Machines(unittest.TestCase):
    def test_a_told_halt_is_its_halt_and_a_paper_shows_that_there_is_none(self):
        for machine in some_machines():
            told = decide(machine, 40, 2)
            if told is None:
                continue
            if told[0] == "halts":
                self.assertIs(check_decided(machine, told), True)
                self.assertEqual(machine.run(Tape(), told[1])[0], told[1])
            else:
                self.assertIs(check_decided(machine, told), False)
                with self.assertRaises(NoEnd):
                    machine.run(Tape(), 700)

    def test_by_rules_step_by_step(self):
        for machine in some_machines():
            rules = of_machine(machine)
            for tape in some_tapes(machine.signs):
                word = word_of(0, tape)
                rows = machine.history(tape, 30)
                for state, here in rows[1:]:
                    word = first_after(rules, word)[2]
                    self.assertTrue(same_word(word, word_of(state, here)))
                self.assertEqual(first_after(rules, word) is None, machine.step(*rows[-1]) is None)

    def test_by_three_numbers_step_by_step(self):
        for machine in some_machines():
            for tape in some_tapes(machine.signs):
                rows = machine.history(tape, 30)
                state, counts = 0, (number_of_side(tape.left, machine.signs), tape.here,
                                    number_of_side(tape.right, machine.signs))
                for own, here in rows[1:]:
                    state, counts = counted_step(machine, state, counts)
                    sides = [side_of_number(counts[side], machine.signs) for side in (0, 2)]
                    self.assertEqual((state, sides[0], counts[1], sides[1]), (own,) + here.shown())
                if machine.step(*rows[-1]) is None:
                    self.assertIsNone(counted_step(machine, state, counts))
                    self.assertEqual(counted_run(machine, tape, 30)[:2], machine.run(tape, 30)[:2])

    def test_by_two_signs_step_by_step(self):
        for machine in some_machines():
            told, size = by_two(machine)
            for tape in some_tapes(machine.signs):
                rows = machine.history(tape, 12)
                found = told.history(told_by_two(tape, size), 12 * (4 * size + 4))
                own = [(state, told_back(here, size).shown()) for state, here in found if 0 <= state < machine.states]
                kept = [(state, here.shown()) for state, here in rows if state != HALT]
                self.assertEqual(own[:len(kept)], kept)
                if machine.step(*rows[-1]) is None:
                    self.assertEqual(told_back(found[-1][1], size).shown(), rows[-1][1].shown())

    def test_by_a_desk(self):
        for text in ("1RB1LB 1LA1RZ", "1RB2LB1RZ 2LA2RB1LB", "1RB1RZ 1LB0RC 1LC1LA"):
            desk = Desk()
            desk.say("machine " + text)
            steps, state, tape = read_machine(text).run(Tape(), 99)
            self.assertEqual(desk.say("decide 99"), f"halts {steps}")
            for _ in range(steps):
                desk.say("step 1")
            self.assertEqual((desk.state, desk.tape.shown()), (state, tape.shown()))


class Programs(unittest.TestCase):
    def setUp(self):
        self.programs = [read_program(text) for text in (
            "-0 1 2;+1 0", "+1 1;-0 0 2;+2 7", "-0 1 4;-1 2 3;+2 0;+0 9", "-2 0 1;+0 8", "-1 2 5;+0 0;+2 0", "+0 4")]
        self.programs += [pour(0, (1, 2)), copy(0, 1, 2), clear(1), program_of(777), program_of(123456)]
        self.programs = [program for program in self.programs if program.width() <= 3 and program.rows]

    def test_by_a_tape_by_a_number_and_by_rules(self):
        ends = 0
        for program in self.programs:
            rules, number = rules_of_program(program, 3), program_code(program)
            for counts in itertools.product(range(3), repeat=3):
                try:
                    found = program.run(counts, 50)
                except NoEnd:
                    with self.assertRaises(NoEnd):
                        run_code(number, counts, 50)
                    with self.assertRaises(NoEnd):
                        run_by_tape(program, counts, 3, 50)
                    with self.assertRaises(NoEnd):
                        by_first(rules, word_of_counts(counts, 3), 50)
                    continue
                ends += 1
                self.assertEqual(run_code(number, counts, 50), found)
                self.assertEqual(run_by_tape(program, counts, 3, 9999), found[2])
                word = by_first(rules, word_of_counts(counts, 3), 9999)[1]
                self.assertEqual(word[2:], word_of_counts(found[2], 3)[2:])
        self.assertGreater(ends, 150)

    def test_step_by_step(self):
        for program in self.programs:
            machine, number = by_tape(program, 3), program_code(program)
            rows = program.history((2, 1, 1), 12)
            state, tape = 0, of_word(counts_word((2, 1, 1)))
            for steps, (place, counts) in enumerate(rows):
                self.assertEqual(state, place if place < len(program.rows) else HALT)
                self.assertEqual(word_counts(tape.word()), tuple([count_of(counts, slot) for slot in range(3)]))
                if state == HALT:
                    self.assertEqual(run_code(number, (2, 1, 1), steps), (steps, place, counts))
                    break
                with self.assertRaises(NoEnd):
                    run_code(number, (2, 1, 1), steps)
                state, tape = machine.step(state, tape)
                while state >= len(program.rows):
                    state, tape = machine.step(state, tape)


class Functions(unittest.TestCase):
    def test_put_together_by_loops_and_by_registers(self):
        for term, count in [(adder(), 2), (multiplier(), 2), (NEXT, 1), (constant(3, 2), 2),
                            (("put", multiplier(), (adder(), ("pick", 0, 2))), 2)]:
            steps = steps_of(term)
            program = by_registers(steps)
            for row in itertools.product(range(4), repeat=count):
                found = worth(term, row, 20000)
                self.assertEqual(count_of(carried(steps, row, 20000), count), found)
                self.assertEqual(count_of(program.run(row, 200000)[2], count), found)

    def test_by_the_number_that_tells_these(self):
        for term, count in [(NEXT, 1), (("nought", 2), 2), (("pick", 0, 2), 2), (constant(1, 0), 0)]:
            number = program_code(by_registers(steps_of(term)))
            for row in itertools.product(range(5), repeat=count):
                self.assertEqual(count_of(run_code(number, row, 5000)[2], count), worth(term, row))

    def test_sums_and_products_by_terms(self):
        for one, other in itertools.product(range(7), repeat=2):
            numbers = (numeral(one), numeral(other))
            self.assertEqual(number_of(put_all(sum_term(), numbers)), worth(adder(), (one, other)))
            self.assertEqual(number_of(put_all(product_term(), numbers)), worth(multiplier(), (one, other)))


class Refusals(unittest.TestCase):
    def test_each_keeps_its_kind_whatever_was_refused_ahead(self):
        for first, second in itertools.product(REFUSED, repeat=2):
            for kind, deed in (first, second, first):
                with self.assertRaises(MachineFault) as caught:
                    deed()
                self.assertIs(type(caught.exception), kind)

    def test_nothing_is_changed(self):
        desk = Desk()
        desk.say("machine 1RB1LB 1LA1RZ")
        desk.say("step 2")
        text, place = desk.text, desk.say("place")
        for kind, deed in REFUSED:
            with self.assertRaises(kind):
                deed()
            self.assertEqual(desk.say("end 1"), "error: no end")
        self.assertEqual((desk.text, desk.say("place")), (text, place))
        self.assertEqual(done_again(text).say("place"), place)

    def test_rows_are_lists_or_tuples(self):
        self.assertEqual(run_code(11, [2, 1], 9), run_code(11, (2, 1), 9))
        self.assertEqual(by_first([["ba", "ab"]], "bba", 9), by_first((("ba", "ab"),), "bba", 9))
        self.assertEqual(Cells(110).history([0, 1], 3), Cells(110).history((0, 1), 3))
        self.assertEqual(check_laid([["a", "a"]], [0]), check_laid((("a", "a"),), (0,)))
        self.assertEqual(run_by_tape(Program([["add", 0, 1]]), [1], 2, 99), (2,))
        self.assertEqual(Rounds(["1", ""]).words, Rounds(("1", "")).words)


if __name__ == "__main__":
    unittest.main()
