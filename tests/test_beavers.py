"""Point 5: classes of small machines, how they are grown, what is told of them, and the busiest ones."""

import itertools
import unittest

from turingwright.beavers import (all_machines, busiest, champions, check_class, check_size, is_full, kinds_told,
                                  rows_for, with_rows)
from turingwright.errors import BadPaper, BadSize, NoEnd
from turingwright.machines import HALT, Machine, read_machine, told_machine
from turingwright.papers import check_decided, decide
from turingwright.tapes import Tape

CLASSES = ((1, 2), (2, 2), (1, 3))

# It goes to and fro over a row of ones, each time one place longer: words two long tell it, nothing sooner.
BOUNCER = "1RB1RA 0LC--- 0RA1LC"


def rows_put_in(machine):
    """Return the machine's rows in the order of its table: the order in which it was grown."""
    return list(machine.table.values())


def naive_machines(states, signs, most, size):
    """Return the texts of a class's machines, grown one in another."""
    def grown(table):
        machine = Machine(states, signs, table)
        told = decide(machine, most, size)
        if told is None or told[0] != "halts" or HALT in [row[2] for row in table.values()]:
            return [told_machine(machine)]
        _, state, tape = machine.run(Tape(), most)
        known = {0} | {key[0] for key in table} | {row[2] for row in table.values()}
        rows = [(1, 1, HALT)]
        if len(table) < states * signs - 1:
            reach = min(states, len(known) + 1)
            rows += [row for row in itertools.product(range(signs), (-1, 1), range(reach)) if table or row[1] == 1]
        return [text for row in rows for text in grown(dict(table) | {(state, tape.here): row})]
    return grown({})


class Sizes(unittest.TestCase):
    def test_classes(self):
        for states, signs in CLASSES:
            self.assertEqual(check_size(states, signs), (states, signs))

    def test_refused(self):
        for states, signs in itertools.product(range(-1, 5), repeat=2):
            if (states, signs) not in CLASSES:
                with self.subTest(states=states, signs=signs):
                    with self.assertRaises(BadSize):
                        check_size(states, signs)
                    with self.assertRaises(BadSize):
                        all_machines(states, signs, 5, 1)
                    with self.assertRaises(BadSize):
                        busiest(states, signs, 5, 1)


class Rows(unittest.TestCase):
    def test_the_halt_then_signs_moves_and_states(self):
        machine = Machine(2, 2, {(0, 0): (1, 1, 1)})
        rows = ((1, 1, -1), (0, -1, 0), (0, -1, 1), (0, 1, 0), (0, 1, 1), (1, -1, 0), (1, -1, 1), (1, 1, 0), (1, 1, 1))
        self.assertEqual(rows_for(machine, 2, 2), rows)

    def test_one_state_and_three_signs(self):
        rows = ((1, 1, -1), (0, -1, 0), (0, 1, 0), (1, -1, 0), (1, 1, 0), (2, -1, 0), (2, 1, 0))
        self.assertEqual(rows_for(Machine(1, 3, {(0, 0): (2, 1, 0)}), 1, 3), rows)

    def test_states_that_rows_have_or_lead_to_and_one_more(self):
        for table, states in [({(0, 0): (1, 1, 0)}, (0, 1)), ({(0, 0): (1, 1, 1)}, (0, 1, 2)),
                              ({(0, 0): (1, 1, 2)}, (0, 1, 2)), ({(0, 0): (1, 1, 3)}, (0, 1, 3)),
                              ({(2, 0): (1, 1, -1)}, (0, 1, 2)), ({(0, 0): (1, 1, 1), (1, 0): (1, 1, 2)}, (0, 1, 2, 3)),
                              ({(0, 0): (1, 1, 1), (2, 0): (1, 1, 3)}, (0, 1, 2, 3)), ({}, (0, 1))]:
            with self.subTest(table=table):
                rows = rows_for(Machine(4, 2, table), 4, 2)
                self.assertEqual(rows[0], (1, 1, -1))
                self.assertEqual(rows[1:], tuple(itertools.product((0, 1), (-1, 1), states)))

    def test_is_full(self):
        self.assertIs(is_full(read_machine("1RB--- 1LA1RZ")), True)
        self.assertIs(is_full(read_machine("1LZ---")), True)
        self.assertIs(is_full(read_machine("1RB1LB 1LA1RA")), False)
        self.assertIs(is_full(read_machine("------")), False)


class Grown(unittest.TestCase):
    def test_the_first_row_goes_right(self):
        grown = with_rows(Machine(2, 2, {}), 2, 2, 0)
        self.assertIsInstance(grown, list)
        texts = [told_machine(machine) for machine in grown]
        self.assertEqual(texts, ["1RZ--- ------", "0RA--- ------", "0RB--- ------", "1RA--- ------", "1RB--- ------"])

    def test_a_row_between(self):
        machine = read_machine("1RB--- ------")
        grown = with_rows(machine, 2, 2, 5)
        self.assertEqual([one.table[(1, 0)] for one in grown], list(rows_for(machine, 2, 2)))
        for one in grown:
            self.assertEqual((one.states, one.signs, len(one.table)), (2, 2, 2))
            self.assertEqual(one.table[(0, 0)], (1, 1, 1))
        self.assertEqual(machine.table, {(0, 0): (1, 1, 1)})

    def test_the_last_row_is_the_halt_alone(self):
        grown = with_rows(read_machine("1RB1LB 1LA---"), 2, 2, 10)
        self.assertEqual([told_machine(machine) for machine in grown], ["1RB1LB 1LA1RZ"])
        grown = with_rows(read_machine("1RB0LB ---1RA"), 2, 2, 10)
        self.assertEqual([told_machine(machine) for machine in grown], ["1RB0LB 1RZ1RA"])
        self.assertEqual([told_machine(machine) for machine in with_rows(read_machine("1NA---"), 1, 2, 5)], ["1NA1RZ"])
        self.assertEqual(len(with_rows(read_machine("1NA------"), 1, 3, 5)), 7)

    def test_none_where_it_does_not_halt_without_a_row(self):
        self.assertEqual(with_rows(read_machine("1RB1LB 1LA1RZ"), 2, 2, 10), [])
        self.assertEqual(with_rows(read_machine("1RZ--- ------"), 2, 2, 10), [])
        self.assertEqual(with_rows(read_machine("1RA--- ------"), 2, 2, 10), [])

    def test_within_so_many_steps(self):
        machine = read_machine("1RB1LB 1LA---")
        self.assertEqual(with_rows(machine, 2, 2, 4), [])
        self.assertEqual(len(with_rows(machine, 2, 2, 5)), 1)


class All(unittest.TestCase):
    def test_one_state(self):
        rows = all_machines(1, 2, 10, 1)
        self.assertEqual([told_machine(machine) for machine, told in rows], ["1RZ---", "0RA---", "1RA---"])
        self.assertEqual([told for machine, told in rows], [("halts", 1), ("ring", (0, 1)), ("moved", (1, 1, 2, 0))])
        rows = all_machines(1, 3, 10, 1)
        texts = ["1RZ------", "0RA------", "1RA------", "2RA------"]
        self.assertEqual([told_machine(machine) for machine, told in rows], texts)

    def test_two_states_first_ones(self):
        texts = [told_machine(machine) for machine, told in all_machines(2, 2, 20, 2)]
        self.assertEqual(texts[:8], ["1RZ--- ------", "0RA--- ------", "0RB--- 1RZ---", "0RB--- 0LA---",
                                     "0RB--- 0LB---", "0RB--- 0RA---", "0RB--- 0RB---", "0RB--- 1LA1RZ"])

    def test_against_ones_grown_one_in_another(self):
        for (states, signs), most in itertools.product(CLASSES, (0, 1, 3, 20)):
            rows = all_machines(states, signs, most, 2)
            self.assertIsInstance(rows, tuple)
            texts = [told_machine(machine) for machine, told in rows]
            self.assertEqual(texts, naive_machines(states, signs, most, 2))
            self.assertEqual(len(set(texts)), len(texts))

    def test_told_as_decided(self):
        for states, signs in CLASSES:
            for machine, told in all_machines(states, signs, 12, 2):
                self.assertEqual(told, decide(machine, 12, 2))

    def test_each_is_told_rightly(self):
        for states, signs in CLASSES:
            for machine, told in all_machines(states, signs, 20, 2):
                halts = told[0] == "halts"
                self.assertIs(check_decided(machine, told), halts)
                self.assertIs(is_full(machine), halts)
                if halts:
                    self.assertEqual(machine.run(Tape(), 20)[:2], (told[1], HALT))
                else:
                    with self.assertRaises(NoEnd):
                        machine.run(Tape(), 200)

    def test_rows_stand_as_they_may(self):
        for states, signs in CLASSES:
            for machine, told in all_machines(states, signs, 20, 2):
                rows = rows_put_in(machine)
                self.assertEqual(rows[0][1], 1)
                self.assertTrue(all(row[2] != HALT for row in rows[:-1]))
                if rows[-1][2] == HALT:
                    self.assertEqual(rows[-1], (1, 1, HALT))
                else:
                    self.assertLess(len(rows), states * signs)

    def test_what_is_not_decided_is_none(self):
        rows = all_machines(2, 2, 0, 0)
        self.assertEqual([told for machine, told in rows], [None] * 5)
        rows = all_machines(2, 2, 3, 0)
        self.assertIn(None, [told for machine, told in rows])
        self.assertTrue(all(check_decided(machine, told) == (told[0] == "halts") for machine, told in rows if told))

    def test_refused(self):
        with self.assertRaises(BadSize):
            all_machines(2, 2, -1, 2)
        with self.assertRaises(BadSize):
            busiest(1, 2, -1, 2)


class Busiest(unittest.TestCase):
    def test_known_ones(self):
        self.assertEqual(busiest(1, 2, 10, 1), (1, 1, 1, 2, 0))
        self.assertEqual(busiest(1, 3, 10, 1), (1, 1, 1, 3, 0))
        self.assertEqual(busiest(2, 2, 20, 2)[:2], (6, 4))
        self.assertEqual(busiest(2, 2, 20, 2)[4], 0)

    def test_counts_are_those_of_the_rows(self):
        for (states, signs), most in itertools.product(CLASSES, (0, 1, 2, 4, 20)):
            rows = all_machines(states, signs, most, 1)
            kinds = [None if told is None else told[0] for machine, told in rows]
            found = busiest(states, signs, most, 1)
            self.assertEqual(found[2], kinds.count("halts"))
            self.assertEqual(found[3], len([kind for kind in kinds if kind in ("ring", "moved", "grams")]))
            self.assertEqual(found[4], kinds.count(None))

    def test_none_that_halts(self):
        self.assertEqual(busiest(1, 2, 0, 0), (0, 0, 0, 0, 3))

    def test_no_machine_of_the_class_is_busier(self):
        # Each table of two states and two signs whose machine moves at each step, halts where no row is, too.
        rows = [None] + list(itertools.product((0, 1), (-1, 1), (-1, 0, 1)))
        best = [0, 0]
        for found in itertools.product(rows, repeat=4):
            keys = itertools.product((0, 1), repeat=2)
            machine = Machine(2, 2, {key: row for key, row in zip(keys, found) if row is not None})
            history = machine.history(Tape(), 12)
            if len(history) < 13:
                best = [max(best[0], len(history) - 1), max(best[1], history[-1][1].ones())]
        self.assertEqual(tuple(best), busiest(2, 2, 12, 3)[:2])


class Checked(unittest.TestCase):
    def test_check_class(self):
        for states, signs in CLASSES:
            rows = all_machines(states, signs, 20, 2)
            self.assertEqual(check_class(rows), len(rows))
        self.assertEqual(check_class(()), 0)
        bouncer = read_machine(BOUNCER)
        self.assertEqual(check_class([[bouncer, decide(bouncer, 20, 2)], [bouncer, decide(bouncer, 20, 2)]]), 2)

    def test_check_class_refused(self):
        rows = all_machines(2, 2, 20, 2)
        with self.assertRaises(BadSize):
            check_class(rows[:4] + ((rows[4][0], None),) + rows[5:])
        with self.assertRaises(BadPaper):
            check_class(rows[:4] + ((rows[4][0], ("halts", 3)),) + rows[5:])
        with self.assertRaises(BadPaper):
            check_class([(read_machine("1RZ---"), ("ring", (0, 1)))])
        with self.assertRaises(BadPaper):
            check_class([(read_machine("1RZ---"), ("ends", 1))])

    def test_champions(self):
        rows = all_machines(2, 2, 20, 2)
        found = champions(rows, 6)
        self.assertIsInstance(found, tuple)
        self.assertEqual([told_machine(machine) for machine in found],
                         [told_machine(machine) for machine, told in rows if told == ("halts", 6)])
        self.assertIn("1RB1LB 1LA1RZ", [told_machine(machine) for machine in found])
        self.assertEqual(champions(rows[1:2], 0), ())
        self.assertEqual(champions((), 0), ())
        self.assertEqual([told_machine(machine) for machine in champions(rows[:3], 2)], ["0RB--- 1RZ---"])

    def test_champions_refused(self):
        with self.assertRaises(BadSize):
            champions(all_machines(2, 2, 20, 2), 5)
        with self.assertRaises(BadSize):
            champions([(read_machine("1RZ---"), ("halts", 1))], 0)

    def test_champions_pass_over_what_is_not_decided(self):
        rows = [(read_machine("1RA---"), None), (read_machine("1RZ---"), ("halts", 1))]
        self.assertEqual([told_machine(machine) for machine in champions(rows, 1)], ["1RZ---"])

    def test_kinds_told(self):
        bouncer = read_machine(BOUNCER)
        rows = [(bouncer, None), (bouncer, decide(bouncer, 20, 2)), (bouncer, ("ring", (0, 1))),
                (bouncer, ("halts", 3)), (bouncer, ("moved", (1, 1, 2, 0))), (bouncer, ("halts", 5))]
        kinds = [("grams", 1), ("halts", 2), ("moved", 1), ("open", 1), ("ring", 1)]
        self.assertEqual(list(kinds_told(rows).items()), kinds)
        self.assertEqual(kinds_told(()), {})
        self.assertEqual(kinds_told(all_machines(1, 2, 10, 1)), {"halts": 1, "moved": 1, "ring": 1})
        self.assertEqual(kinds_told(all_machines(1, 2, 0, 0)), {"open": 3})


if __name__ == "__main__":
    unittest.main()
