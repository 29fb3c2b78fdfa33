"""Points 3 and 17: machines, their runs, their texts, and their records."""

import unittest

from turingwright import machines
from turingwright.errors import BadMachine, BadSize, BadText, NoEnd
from turingwright.machines import (Machine, come_to, read_machine, read_row, records, renamed_states, score,
                                   told_machine, told_row, turned_machine)
from turingwright.tapes import Tape, of_word, turned_tape

TEXTS = ("1RB1LB 1LA1RZ", "1RB1RZ 1LB0RC 1LC1LA", "1RB1RZ 0RC1RB 1LC1LA", "1RB1LB 1LA0LC 1RZ1LD 1RD0RA",
         "1RB2LB1RZ 2LA2RB1LB", "------", "1RA---", "0NA1NZ", "1RA1LA2NZ", "8RA------------------------")


def rows_shown(rows):
    """Return (state, tape) rows with their tapes shown."""
    return [(state, tape.shown()) for state, tape in rows]


def beaver():
    """Return the busiest machine of two states and two signs: six steps, four ones."""
    return read_machine("1RB1LB 1LA1RZ")


class Fields(unittest.TestCase):
    def test_values(self):
        self.assertEqual(machines.HALT, -1)
        self.assertEqual(machines.MOVES, {"L": -1, "R": 1, "N": 0})

    def test_fields(self):
        table = {(1, 0): [1, 0, -1], (0, 1): (0, -1, 1)}
        machine = Machine(2, 3, table)
        self.assertEqual((machine.states, machine.signs), (2, 3))
        self.assertEqual(machine.table, {(0, 1): (0, -1, 1), (1, 0): (1, 0, -1)})
        self.assertEqual([type(row) for row in machine.table.values()], [tuple, tuple])

    def test_the_table_is_its_own(self):
        table = {(0, 0): (1, 1, 0)}
        machine = Machine(1, 2, table)
        table[(0, 1)] = (1, 1, 0)
        self.assertEqual(machine.table, {(0, 0): (1, 1, 0)})

    def test_shown(self):
        machine = Machine(2, 2, {(1, 0): [1, 0, -1], (0, 1): [0, -1, 1], (0, 0): [1, 1, 1]})
        rows = (((0, 0), (1, 1, 1)), ((0, 1), (0, -1, 1)), ((1, 0), (1, 0, -1)))
        self.assertEqual(machine.shown(), (2, 2, rows))
        self.assertEqual(Machine(1, 2, {}).shown(), (1, 2, ()))

    def test_refused(self):
        for states, signs, table in [
                (0, 2, {}), (-1, 2, {}), (1, 1, {}), (1, 0, {}),
                (1, 2, {(1, 0): (1, 1, 0)}), (1, 2, {(-1, 0): (1, 1, 0)}), (1, 2, {(0, 2): (1, 1, 0)}),
                (1, 2, {(0, -1): (1, 1, 0)}), (1, 2, {(0, 0): (2, 1, 0)}), (1, 2, {(0, 0): (-1, 1, 0)}),
                (1, 2, {(0, 0): (1, 2, 0)}), (1, 2, {(0, 0): (1, -2, 0)}), (1, 2, {(0, 0): (1, 1, 1)}),
                (1, 2, {(0, 0): (1, 1, -2)}), (1, 2, {(0, 0): (1, 1, 0), (0, 1): (1, 1, 5)})]:
            with self.subTest(states=states, signs=signs, table=table):
                with self.assertRaises(BadMachine):
                    Machine(states, signs, table)


class Steps(unittest.TestCase):
    def test_step(self):
        state, tape = beaver().step(0, Tape())
        self.assertEqual((state, tape.shown()), (1, ((1,), 0, ())))
        state, tape = beaver().step(1, Tape((), 1, (1,)))
        self.assertEqual((state, tape.shown()), (-1, ((1,), 1, ())))

    def test_step_of_each_move(self):
        for letter, shown in (("L", ((2,), 1, (1, 3))), ("R", ((1, 1, 2), 3, ())), ("N", ((1, 2), 1, (3,)))):
            machine = read_machine("---1" + letter + "A------")
            self.assertEqual(machine.step(0, Tape((1, 2), 1, (3,)))[1].shown(), shown)

    def test_step_leaves_what_it_is_of(self):
        tape = Tape((1,), 0, (1,))
        beaver().step(0, tape)
        self.assertEqual(tape.shown(), ((1,), 0, (1,)))

    def test_step_where_it_halts_at_once(self):
        self.assertIsNone(beaver().step(-1, Tape()))
        self.assertIsNone(Machine(1, 2, {}).step(0, Tape()))
        self.assertIsNone(beaver().step(-1, Tape((), 7, ())))

    def test_step_refused(self):
        for state, tape in [(0, Tape((), 2, ())), (2, Tape()), (-2, Tape()), (1, Tape((), 9, ()))]:
            with self.assertRaises(BadMachine):
                beaver().step(state, tape)

    def test_run(self):
        steps, state, tape = beaver().run(Tape(), 6)
        self.assertEqual((steps, state, tape.shown()), (6, -1, ((1, 1), 1, (1,))))
        self.assertEqual(beaver().run(Tape(), 600)[0], 6)

    def test_run_counts_the_step_to_the_halt_but_not_a_halt_at_once(self):
        steps, state, tape = read_machine("1RB--- ------").run(Tape(), 5)
        self.assertEqual((steps, state, tape.shown()), (1, 1, ((1,), 0, ())))
        steps, state, tape = read_machine("1RZ---").run(Tape(), 5)
        self.assertEqual((steps, state, tape.shown()), (1, -1, ((1,), 0, ())))

    def test_run_of_no_steps(self):
        tape = Tape((1,), 0, ())
        self.assertEqual(rows_shown([Machine(1, 2, {}).run(tape, 0)[1:]]), [(0, ((1,), 0, ()))])
        self.assertEqual(Machine(1, 2, {}).run(tape, 0)[0], 0)
        self.assertEqual(beaver().run(tape, 0, -1)[:2], (0, -1))
        with self.assertRaises(NoEnd):
            beaver().run(tape, 0)

    def test_run_from_another_state(self):
        self.assertEqual(beaver().run(Tape((), 1, ()), 5, 1)[:2], (1, -1))
        self.assertEqual(beaver().run(Tape((), 1, ()), 5, state=1)[:2], (1, -1))

    def test_run_refused(self):
        with self.assertRaises(NoEnd):
            beaver().run(Tape(), 5)
        with self.assertRaises(NoEnd):
            read_machine("1RA1RA").run(Tape(), 50)
        with self.assertRaises(BadSize):
            beaver().run(Tape(), -1)
        with self.assertRaises(BadMachine):
            beaver().run(Tape((), 2, ()), 5)
        with self.assertRaises(BadMachine):
            beaver().run(Tape(), 5, 2)
        with self.assertRaises(BadMachine):
            read_machine("1RA1RA").run(Tape((), 0, (0, 3)), 5)

    def test_history(self):
        rows = beaver().history(Tape(), 2)
        self.assertEqual(rows_shown(rows), [(0, ((), 0, ())), (1, ((1,), 0, ())), (0, ((), 1, (1,)))])
        self.assertEqual(type(rows), tuple)

    def test_history_up_to_the_halt(self):
        rows = beaver().history(Tape(), 100)
        self.assertEqual(len(rows), 7)
        self.assertEqual(rows_shown(rows)[-1], (-1, ((1, 1), 1, (1,))))
        self.assertEqual(len(beaver().history(Tape(), 6)), 7)
        self.assertEqual(len(beaver().history(Tape(), 5)), 6)
        self.assertEqual(rows_shown(Machine(1, 2, {}).history(Tape(), 9)), [(0, ((), 0, ()))])

    def test_history_of_no_steps(self):
        self.assertEqual(rows_shown(beaver().history(Tape(), 0, 1)), [(1, ((), 0, ()))])
        self.assertEqual(rows_shown(beaver().history(Tape(), 4, state=-1)), [(-1, ((), 0, ()))])

    def test_history_refused(self):
        with self.assertRaises(BadSize):
            beaver().history(Tape(), -1)
        with self.assertRaises(BadMachine):
            beaver().history(Tape((), 2, ()), 1)

    def test_history_goes_as_steps_do(self):
        for text in TEXTS:
            machine = read_machine(text)
            rows = machine.history(Tape(), 150)
            for number in range(1, len(rows)):
                self.assertEqual(rows_shown([machine.step(*rows[number - 1])]), rows_shown([rows[number]]))

    def test_halts_at(self):
        self.assertEqual(beaver().halts_at(), ())
        self.assertEqual(Machine(2, 2, {(0, 1): (1, 1, 0)}).halts_at(), ((0, 0), (1, 0), (1, 1)))
        self.assertEqual(Machine(1, 3, {}).halts_at(), ((0, 0), (0, 1), (0, 2)))


class Texts(unittest.TestCase):
    def test_told(self):
        table = {(0, 0): (1, 1, 1), (0, 1): (1, -1, 0), (1, 1): (0, 0, -1)}
        self.assertEqual(told_machine(Machine(2, 2, table)), "1RB1LA ---0NZ")
        self.assertEqual(told_machine(Machine(1, 3, {})), "---------")

    def test_told_refused(self):
        with self.assertRaises(BadMachine):
            told_machine(Machine(1, 10, {}))
        with self.assertRaises(BadMachine):
            told_machine(Machine(21, 2, {}))
        self.assertEqual(len(told_machine(Machine(20, 9, {}))), 20 * 27 + 19)

    def test_rows(self):
        for row, triple in [((1, 1, 1), "1RB"), ((0, -1, 0), "0LA"), ((8, 0, 19), "8NT"), ((1, 1, -1), "1RZ"),
                            (None, "---")]:
            self.assertEqual(told_row(row), triple)
            self.assertEqual(read_row(triple), row)

    def test_a_row_told_of_a_list(self):
        self.assertEqual(told_row([2, -1, 2]), "2LC")

    def test_read_row_refused(self):
        for triple in ("9RA", "1XA", "1RU", "1RY", "1Ra", "1R0", "1R-", "-RA", "1-A", "--A", "rRA", "1rA", "   ", "1R ",
                       "", "1R", "1RAA", "----"):
            with self.subTest(triple=triple):
                with self.assertRaises(BadText):
                    read_row(triple)

    def test_read(self):
        machine = read_machine("1RB1LA ---0NZ")
        self.assertEqual((machine.states, machine.signs), (2, 2))
        self.assertEqual(machine.table, {(0, 0): (1, 1, 1), (0, 1): (1, -1, 0), (1, 1): (0, 0, -1)})

    def test_read_a_text_of_one_word(self):
        self.assertEqual(read_machine("------").shown(), (1, 2, ()))
        self.assertEqual(read_machine("1RA2LZ0NA").shown(),
                         (1, 3, (((0, 0), (1, 1, 0)), ((0, 1), (2, -1, -1)), ((0, 2), (0, 0, 0)))))

    def test_read_refused_as_a_text(self):
        for text in ("", " ", "1RA", "1RA1R", "1RA1RA1", "1RA1RA 1RA", "1RA1RA 1RA1RA1RA", "1RA1RA 1RA1R", "1RA1XA",
                     "1RA9RA", "1RA1Rz", " ".join(["------"] * 21)):
            with self.subTest(text=text):
                with self.assertRaises(BadText):
                    read_machine(text)

    def test_read_refused_as_a_machine(self):
        for text in ("1RB1RA", "2RA1RA", "1RA1LC ------", "1RA8LA"):
            with self.subTest(text=text):
                with self.assertRaises(BadMachine):
                    read_machine(text)

    def test_told_and_read_again(self):
        for text in TEXTS + (" ".join(["------"] * 20),):
            self.assertEqual(told_machine(read_machine(text)), text)
        machine = Machine(20, 9, {(19, 8): (8, -1, 19), (7, 3): (2, 0, 11), (0, 0): (1, 1, -1)})
        self.assertEqual(read_machine(told_machine(machine)).shown(), machine.shown())


class Turned(unittest.TestCase):
    def test_turned(self):
        self.assertEqual(told_machine(turned_machine(read_machine("1RB1LZ 0NA---"))), "1LB1RZ 0NA---")

    def test_turned_does_the_same_from_behind(self):
        tape = of_word((1, 0, 1, 1), 1)
        for text in TEXTS:
            machine = read_machine(text)
            rows = machine.history(tape, 60)
            turned = turned_machine(machine).history(turned_tape(tape), 60)
            self.assertEqual(rows_shown(turned), [(state, turned_tape(one).shown()) for state, one in rows])

    def test_renamed(self):
        machine = read_machine("1RB1RZ 0RC1RB 1LC1LA")
        self.assertEqual(told_machine(renamed_states(machine, (2, 0, 1))), "1LA1LB 1RC1RZ 0RA1RC")
        self.assertEqual(renamed_states(machine, [0, 1, 2]).shown(), machine.shown())

    def test_renamed_does_the_same(self):
        order = (3, 1, 0, 2)
        machine = read_machine("1RB1LB 1LA0LC 1RZ1LD 1RD0RA")
        rows = renamed_states(machine, order).history(Tape(), 200, order.index(0))
        told = [(state if state == -1 else order[state], tape.shown()) for state, tape in rows]
        self.assertEqual(told, rows_shown(machine.history(Tape(), 200)))

    def test_renamed_refused(self):
        machine = read_machine("1RB1LB 1LA1RZ")
        for order in ((), (0,), (0, 0), (1, 2), (0, 1, 2), (-1, 0), [1, 1]):
            with self.assertRaises(BadMachine):
                renamed_states(machine, order)


class Come(unittest.TestCase):
    def test_come_to(self):
        self.assertEqual(come_to(read_machine("1RC--- 1RA1RA 1RC1RZ")), (0, 2))
        self.assertEqual(come_to(read_machine("1RD--- 1RZ--- 1RB1RA 1RC---")), (0, 1, 2, 3))
        self.assertEqual(come_to(read_machine("1RA1RZ 1RA1RA")), (0,))

    def test_come_to_where_it_halts_at_once(self):
        self.assertEqual(come_to(Machine(3, 2, {(1, 0): (1, 1, 2)})), (0,))

    def test_score(self):
        for text, found in [("1RB1LB 1LA1RZ", (6, 4)), ("1RB1RZ 1LB0RC 1LC1LA", (21, 5)),
                            ("1RB1RZ 0RC1RB 1LC1LA", (14, 6)), ("1RB1LB 1LA0LC 1RZ1LD 1RD0RA", (107, 13)),
                            ("1RB2LB1RZ 2LA2RB1LB", (38, 9)), ("------", (0, 0)), ("0RZ---", (1, 0))]:
            self.assertEqual(score(read_machine(text), found[0]), found)
            self.assertEqual(score(read_machine(text), 120), found)

    def test_score_refused(self):
        with self.assertRaises(NoEnd):
            score(beaver(), 5)
        with self.assertRaises(NoEnd):
            score(read_machine("0NA---"), 50)
        with self.assertRaises(BadSize):
            score(beaver(), -1)


class Records(unittest.TestCase):
    def told(self, text, count):
        """Return a text's records with their tapes shown."""
        return [(step, side, state, tape.shown()) for step, side, state, tape in records(read_machine(text), count)]

    def test_records_to_both_sides(self):
        self.assertEqual(self.told("1RB1LB 1LA1RZ", 10), [
            (1, 1, 1, ((1,), 0, ())), (3, -1, 1, ((), 0, (1, 1))), (4, -1, 0, ((), 0, (1, 1, 1)))])

    def test_records_at_the_halt(self):
        self.assertEqual(self.told("1RZ---", 3), [(1, 1, -1, ((1,), 0, ()))])

    def test_the_start_is_no_record(self):
        self.assertEqual(self.told("0RB--- 0LA---", 3), [(1, 1, 1, ((), 0, ()))])
        self.assertEqual(self.told("------", 3), [])
        self.assertEqual(self.told("0NA---", 30), [])

    def test_records_within_so_many_steps(self):
        self.assertEqual(self.told("1RA---", 0), [])
        self.assertEqual([row[:3] for row in self.told("1RA---", 3)], [(1, 1, 0), (2, 1, 0), (3, 1, 0)])
        self.assertEqual([row[:3] for row in self.told("1LA---", 2)], [(1, -1, 0), (2, -1, 0)])
        self.assertEqual(type(records(read_machine("1RA---"), 3)), tuple)

    def test_records_are_the_first_ones(self):
        machine = read_machine("1RB0LB 1LA0RA")
        rows = machine.history(Tape(), 80)
        place, places, told = 0, {0}, []
        for step in range(1, len(rows)):
            state, tape = rows[step - 1]
            place += machine.table[(state, tape.here)][1]
            if place not in places:
                told.append((step, 1 if place > 0 else -1, rows[step][0], rows[step][1].shown()))
            places.add(place)
        self.assertEqual(self.told("1RB0LB 1LA0RA", 80), told)
        self.assertGreater(len(told), 4)

    def test_records_refused(self):
        with self.assertRaises(BadSize):
            records(beaver(), -1)


if __name__ == "__main__":
    unittest.main()
