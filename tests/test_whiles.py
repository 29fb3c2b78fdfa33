"""Points 7 and 17: the small language of counts, carried out, told by registers, and bounded."""

import itertools
import unittest

from turingwright.errors import BadMachine, BadSize, NoEnd
from turingwright.registers import Program, trimmed_counts
from turingwright.whiles import (Carrier, adding, bound, by_registers, carried, check_steps, depth, has_while, less,
                                 multiplying, names_of, told_step)

PLAIN = (("nought", 0), ("nought", 1), ("copy", 0, 1), ("copy", 1, 0), ("copy", 1, 1), ("add", 0), ("add", 1),
         ("take", 0), ("take", 1))
COUNTS = ((), (1,), (0, 2), (3, 1), (2, 3, 4))


def some_steps():
    """Return rows of steps: plain ones, loops, whiles, and such one in another."""
    inner = [(one, other) for one, other in itertools.product(PLAIN, repeat=2)]
    rows = [one for one in inner]
    rows += [((kind, name, one), ("add", 1)) for kind in ("loop", "while") for name in (0, 1) for one in inner[::4]]
    for kinds in itertools.product(("loop", "while"), repeat=2):
        for number, names in enumerate(itertools.product((0, 1), repeat=2)):
            for one in inner[number::11]:
                rows.append(((kinds[0], names[0], (one[0], (kinds[1], names[1], one), ("take", names[0]))),))
    rows += [(), (("loop", 0, ()),), (("loop", 0, (("loop", 1, (("loop", 0, (("add", 3),)),)),)),)]
    return rows


def naive(rows, counts, costs):
    """Carry steps out over a dict of counts; put what they cost in a list of one."""
    for row in rows:
        kind, name = row[0], row[1]
        here = counts.get(name, 0)
        costs[0] += 1
        if kind == "nought":
            counts[name] = 0
        elif kind == "copy":
            counts[name] = counts.get(row[2], 0)
        elif kind == "add":
            counts[name] = here + 1
        elif kind == "take":
            counts[name] = here - 1 if here > 0 else 0
        while kind in ("loop", "while") and here > 0:
            costs[0] += 1
            naive(row[2], counts, costs)
            here = here - 1 if kind == "loop" else counts.get(name, 0)
            if costs[0] > 400:
                raise OverflowError


def naive_carried(rows, counts):
    """Return (cost, counts) of steps, None where they don't end soon."""
    table, costs = dict(enumerate(counts)), [0]
    try:
        naive(rows, table, costs)
    except OverflowError:
        return None
    return (costs[0], trimmed_counts([table.get(name, 0) for name in range(6)]))


class Checked(unittest.TestCase):
    def test_steps(self):
        rows = [["nought", 0], ["copy", 1, 2], ["loop", 3, [["add", 4], ["while", 5, [["take", 6]]]]]]
        told = (("nought", 0), ("copy", 1, 2), ("loop", 3, (("add", 4), ("while", 5, (("take", 6),)))))
        self.assertEqual(check_steps(rows), told)
        self.assertEqual(check_steps(told), told)
        self.assertEqual(check_steps([]), ())
        self.assertEqual(check_steps([["loop", 0, []]]), (("loop", 0, ()),))

    def test_refused(self):
        for row in [(), ("put", 0), ("",), ("nought",), ("nought", 0, 1), ("nought", -1), ("nought", "a"),
                    ("nought", None), ("copy", 0), ("copy", 0, 1, 2), ("copy", -1, 0), ("copy", 0, -1),
                    ("copy", 0, "b"), ("add",), ("add", -1), ("add", 0, 0), ("take",), ("take", -1), ("take", 0, 0),
                    ("loop", 0), ("loop", -1, ()), ("loop", "a", ()), ("loop", 0, (), ()), ("loop", 0, 1),
                    ("while", 0), ("while", -1, ()), ("while", 0, (), ()), ("loop", ()), ("add", (0,))]:
            for rows in [(row,), [("add", 0), list(row)], (("loop", 0, (row,)),),
                         (("while", 0, (("loop", 1, [list(row)]),)),)]:
                with self.subTest(rows=rows):
                    for deed in (check_steps, by_registers, lambda steps: carried(steps, (), 50),
                                 lambda steps: bound(steps, 5)):
                        with self.assertRaises(BadMachine):
                            deed(rows)

    def test_names_of(self):
        self.assertEqual(names_of(()), 0)
        self.assertEqual(names_of((("add", 4), ("nought", 2))), 5)
        self.assertEqual(names_of((("copy", 0, 3),)), 4)
        self.assertEqual(names_of((("copy", 3, 0),)), 4)
        self.assertEqual(names_of((("loop", 6, ()),)), 7)
        self.assertEqual(names_of((("loop", 0, (("while", 1, (("add", 8),)), ("add", 2))),)), 9)

    def test_depth(self):
        self.assertEqual(depth(()), 0)
        self.assertEqual(depth((("add", 0), ("copy", 0, 1))), 0)
        self.assertEqual(depth((("loop", 0, ()), ("while", 0, ()))), 1)
        self.assertEqual(depth((("loop", 0, ()), ("while", 0, (("loop", 1, (("add", 0),)),)), ("add", 1))), 2)

    def test_has_while(self):
        self.assertIs(has_while(()), False)
        self.assertIs(has_while((("add", 0), ("loop", 0, (("loop", 1, ()),)))), False)
        self.assertIs(has_while((("add", 0), ("while", 0, ()))), True)
        self.assertIs(has_while((("loop", 0, (("loop", 1, (("while", 0, ()),)), ("add", 0))),)), True)


class Carried(unittest.TestCase):
    def test_each_step(self):
        self.assertEqual(carried((("nought", 0),), (3, 1), 1), (0, 1))
        self.assertEqual(carried((("nought", 1),), (3, 1), 1), (3,))
        self.assertEqual(carried((("copy", 0, 1),), (3, 1), 1), (1, 1))
        self.assertEqual(carried((("copy", 2, 0),), (3, 1), 1), (3, 1, 3))
        self.assertEqual(carried((("copy", 0, 5),), (3, 1), 1), (0, 1))
        self.assertEqual(carried((("copy", 0, 0),), (3, 1), 1), (3, 1))
        self.assertEqual(carried((("add", 2),), (3, 1), 1), (3, 1, 1))
        self.assertEqual(carried((("take", 1),), (3, 1), 1), (3,))
        self.assertEqual(carried((("take", 2),), (3, 1), 1), (3, 1))
        self.assertEqual(carried((), [3, 0], 0), (3,))

    def test_a_loop_runs_as_often_as_it_is_at_first(self):
        self.assertEqual(carried((("loop", 0, (("add", 0),)),), (3,), 99), (6,))
        self.assertEqual(carried((("loop", 0, (("nought", 0), ("add", 1))),), (3,), 99), (0, 3))
        self.assertEqual(carried((("loop", 0, (("add", 1),)),), (), 1), ())

    def test_a_while_runs_till_it_is_nought(self):
        self.assertEqual(carried((("while", 0, (("take", 0), ("take", 0), ("add", 1))),), (5,), 99), (0, 3))
        self.assertEqual(carried((("while", 0, (("add", 0),)),), (), 1), ())

    def test_costs(self):
        for rows, counts, cost in [((), (), 0), (("add", 0), (), 1), (("copy", 0, 0), (), 1), (("take", 0), (), 1),
                                   (("loop", 0, ()), (), 1), (("loop", 0, ()), (4,), 5),
                                   (("loop", 0, (("add", 1),)), (3,), 7), (("while", 0, ()), (), 1),
                                   (("while", 0, (("take", 0),)), (3,), 7),
                                   (("loop", 0, (("loop", 1, (("add", 2),)),)), (2, 3), 17)]:
            rows = (rows,) if rows else ()
            with self.subTest(rows=rows):
                carrier = Carrier(counts, 50)
                carrier.carry(rows)
                self.assertEqual(carrier.left, 50 - cost)
                carried(rows, counts, cost)
                if cost > 0:
                    with self.assertRaises(NoEnd):
                        carried(rows, counts, cost - 1)

    def test_against_counts_in_a_dict(self):
        ended = 0
        for rows in some_steps():
            for counts in COUNTS:
                told = naive_carried(rows, counts)
                if told is None:
                    with self.assertRaises(NoEnd):
                        carried(rows, counts, 400)
                    continue
                ended += 1
                self.assertEqual(carried(rows, counts, told[0]), told[1])
                if told[0] > 0:
                    with self.assertRaises(NoEnd):
                        carried(rows, counts, told[0] - 1)
        self.assertGreater(ended, 500)

    def test_refused(self):
        with self.assertRaises(BadSize):
            carried((), (), -1)
        with self.assertRaises(NoEnd):
            carried((("while", 0, ()),), (1,), 500)
        with self.assertRaises(NoEnd):
            carried((("add", 0),), (), 0)

    def test_steps_and_counts_stay_as_they_were(self):
        rows, counts = [["loop", 0, [["add", 1]]]], [2, 1]
        self.assertEqual(carried(rows, counts, 99), (2, 3))
        self.assertEqual((rows, counts), ([["loop", 0, [["add", 1]]]], [2, 1]))


class Carriers(unittest.TestCase):
    def test_fields(self):
        carrier = Carrier([1, 2], 5)
        self.assertEqual((carrier.counts, carrier.left), ((1, 2), 5))
        self.assertIsInstance(carrier.counts, tuple)
        self.assertEqual(Carrier((1, 0), 0).counts, (1,))

    def test_refused(self):
        with self.assertRaises(BadSize):
            Carrier((), -1)

    def test_put(self):
        carrier = Carrier((1, 2), 5)
        self.assertIsNone(carrier.put(3, 4))
        self.assertEqual(carrier.counts, (1, 2, 0, 4))
        carrier.put(3, 0)
        self.assertEqual((carrier.counts, carrier.left), ((1, 2), 5))

    def test_spend(self):
        carrier = Carrier((1,), 2)
        self.assertIsNone(carrier.spend())
        self.assertEqual(carrier.left, 1)
        carrier.spend()
        for _ in range(2):
            with self.assertRaises(NoEnd):
                carrier.spend()
            self.assertEqual((carrier.counts, carrier.left), ((1,), 0))

    def test_carry(self):
        carrier = Carrier((1,), 9)
        self.assertIsNone(carrier.carry([["add", 0], ["copy", 1, 0]]))
        self.assertEqual((carrier.counts, carrier.left), ((2, 2), 7))
        carrier.carry((("loop", 0, (("take", 1),)),))
        self.assertEqual((carrier.counts, carrier.left), ((2,), 2))

    def test_what_is_refused_changes_nothing(self):
        for rows in [(("add", 0),) * 4, (("add", 0), ("loop", 0, (("add", 1),))), (("while", 0, (("add", 0),)),),
                     (("add", 0), ("loop", 0, (("loop", 0, (("add", 1),)),)))]:
            carrier = Carrier((1, 2), 3)
            with self.assertRaises(NoEnd):
                carrier.carry(rows)
            self.assertEqual((carrier.counts, carrier.left), ((1, 2), 3))


class ByRegisters(unittest.TestCase):
    def test_the_same_counts_and_all_behind_empty(self):
        ended = 0
        for rows in some_steps():
            program = by_registers(rows)
            self.assertIsInstance(program, Program)
            for counts in COUNTS:
                told = naive_carried(rows, counts)
                # Registers behind the names are not theirs, so only counts of names are handed in.
                if told is None or names_of(rows) < len(counts):
                    continue
                ended += 1
                self.assertEqual(program.run(counts, 20000)[1:], (len(program.rows), told[1]))
        self.assertGreater(ended, 300)

    def test_without_an_end(self):
        for rows in [(("while", 0, ()),), (("while", 0, (("add", 0),)),), (("while", 0, (("copy", 0, 0),)),)]:
            with self.assertRaises(NoEnd):
                by_registers(rows).run((1,), 2000)

    def test_a_copy_onto_itself_is_no_row(self):
        self.assertEqual(by_registers((("copy", 3, 3),)).rows, ())
        self.assertEqual(told_step(("copy", 0, 0), 1).rows, ())

    def test_it_uses_registers_behind_all_names_alone(self):
        self.assertEqual(by_registers(()).rows, ())
        self.assertEqual(by_registers((("add", 2),)).width(), 3)
        self.assertEqual(by_registers((("copy", 0, 1),)).width(), 3)
        self.assertEqual(by_registers((("loop", 0, (("add", 1),)),)).width(), 4)
        self.assertEqual(by_registers((("loop", 0, (("loop", 0, (("add", 1),)),)),)).width(), 5)
        self.assertEqual(by_registers((("while", 0, (("copy", 1, 0),)),)).width(), 3)

    def test_a_step_from_a_room_on(self):
        for row in [("nought", 1), ("copy", 0, 1), ("copy", 1, 0), ("add", 1), ("take", 1), ("take", 2),
                    ("loop", 0, (("add", 1), ("copy", 2, 1))), ["while", 0, [["take", 0], ["add", 1]]]]:
            for room in (3, 6):
                program = told_step(row, room)
                self.assertEqual(program.run((2, 3), 999)[2], carried((row,), (2, 3), 999))
                named = {one[1] for one in program.rows}
                self.assertTrue(all(slot < 3 or slot >= room for slot in named))


class Made(unittest.TestCase):
    def test_adding(self):
        for one, other in itertools.product(range(5), repeat=2):
            self.assertEqual(carried(adding(0, 1), (one, other), 99), trimmed_counts((one, one + other)))
            self.assertEqual(carried(adding(1, 0), (one, other), 99), trimmed_counts((one + other, other)))
        self.assertEqual(carried(adding(0, 0), (4,), 99), (8,))

    def test_multiplying(self):
        for one, other in itertools.product(range(5), repeat=2):
            left = trimmed_counts((one, other, one * other))
            self.assertEqual(carried(multiplying(0, 1, 2), (one, other, 7), 99), left)
            self.assertEqual(by_registers(multiplying(0, 1, 2)).run((one, other, 7), 9999)[2], left)
        self.assertEqual(carried(multiplying(1, 1, 0), (2, 3), 99), (9, 3))

    def test_less(self):
        for one, other in itertools.product(range(5), repeat=2):
            self.assertEqual(carried(less(0, 1), (one, other), 99), trimmed_counts((one, max(0, other - one))))
        self.assertEqual(carried(less(0, 0), (4,), 99), ())

    def test_they_are_steps(self):
        for steps in (adding(0, 1), multiplying(0, 1, 2), less(0, 1)):
            self.assertEqual(check_steps(steps), steps)
            self.assertFalse(has_while(steps))


class Bounds(unittest.TestCase):
    def test_no_count_passes_it(self):
        for rows in some_steps():
            if has_while(rows) or depth(rows) > 2:
                continue
            for most in (0, 1, 3):
                found = bound(rows, most)
                self.assertGreaterEqual(found, most)
                for counts in itertools.product(range(most + 1), repeat=2):
                    self.assertLessEqual(max(carried(rows, counts, 9999), default=0), found)

    def test_of_loops_that_grow_as_they_go(self):
        rows = (("loop", 0, (("loop", 0, (("add", 0),)),)),)
        self.assertEqual([bound(rows, most) for most in range(6)], [0, 2, 8, 24, 64, 160])
        for most in range(6):
            self.assertEqual(max(carried(rows, (most,), 9999), default=0), bound(rows, most))

    def test_known_ones(self):
        self.assertEqual(bound((), 5), 5)
        self.assertEqual(bound((("nought", 0), ("copy", 0, 1), ("take", 1)), 5), 5)
        self.assertEqual(bound([["add", 0], ["add", 1]], 5), 7)
        self.assertEqual(bound(adding(0, 1), 5), 10)
        self.assertEqual(bound((("loop", 0, ()),), 300), 300)

    def test_loops_one_in_another_that_add_nothing(self):
        rows = (("take", 0),)
        for _ in range(12):
            rows = (("loop", 0, rows), ("copy", 1, 0))
        self.assertEqual(bound(rows, 300), 300)

    def test_refused(self):
        for rows in [(("while", 0, ()),), (("add", 0), ("loop", 0, (("while", 0, (("take", 0),)),)))]:
            with self.assertRaises(BadMachine):
                bound(rows, 3)

    def test_too_great(self):
        self.assertEqual(bound((("add", 0),), 299), 300)
        self.assertEqual(bound(adding(0, 1), 150), 300)
        for rows, most in [((("add", 0),), 300), (adding(0, 1), 151), (multiplying(0, 1, 2), 20),
                           ((("loop", 0, (("loop", 0, (("add", 0),)),)),), 9), ((("take", 0),), 301)]:
            with self.subTest(rows=rows, most=most):
                with self.assertRaises(BadSize):
                    bound(rows, most)


if __name__ == "__main__":
    unittest.main()
