"""Points 4 and 1: papers of no halt, how they are found, and which are refused."""

import itertools
import unittest

from turingwright.errors import BadPaper, BadSize, NoEnd
from turingwright.machines import Machine, read_machine, records
from turingwright.papers import (back_depth, check_decided, check_grams, check_moved, check_ring, decide, grams_paper,
                                 grow_from, moved_paper, ring_paper, same_behind)
from turingwright.tapes import Tape

ROWS = [None] + [(sign, move, state) for sign in (0, 1) for move in (-1, 1) for state in (-1, 0, 1)]
KEYS = [(0, 0), (0, 1), (1, 0), (1, 1)]

# It goes to and fro over a row of ones, each time one place longer: no ring, and not moved; words two long tell it.
BOUNCER = "1RB1RA 0LC--- 0RA1LC"

# It goes one place to the right each time, and two places back between.
BACK = "1RB1LA 0LA0RA"


def some_machines():
    """Return each seventh machine of two states and two signs that moves at each step, and some that stay."""
    found = []
    for number, rows in enumerate(itertools.product(ROWS, repeat=4)):
        if number % 7 == 0:
            found.append(Machine(2, 2, {key: row for key, row in zip(KEYS, rows) if row is not None}))
    for rows in itertools.product([None, (0, 0, 1), (1, 0, 0), (1, 1, 0), (0, -1, 1), (1, 0, -1)], repeat=4):
        found.append(Machine(2, 2, {key: row for key, row in zip(KEYS, rows) if row is not None}))
    return found


def naive_ring(machine, most):
    """Return the ring found by looking at each pair of steps."""
    rows = [(state, tape.shown()) for state, tape in machine.history(Tape(), most)]
    for second in range(len(rows)):
        for first in range(second):
            if rows[first] == rows[second]:
                return (first, second)
    return None


def naive_moved(machine, most):
    """Return the moved paper found by looking at each pair of records, signs read one by one."""
    history = machine.history(Tape(), most)
    rows = records(machine, most)
    for number, second in enumerate(rows):
        for first in reversed(rows[:number]):
            if first[1:3] == second[1:3]:
                side, place, depth = first[1], 0, 0
                for state, tape in history[first[0]:second[0]]:
                    place += machine.table[(state, tape.here)][1]
                    depth = max(depth, -side * place)
                one, other = first[3], second[3]
                if all(one.at(-side * far) == other.at(-side * far) for far in range(depth + 1)):
                    return (side, first[0], second[0], depth)
    return None


class Rings(unittest.TestCase):
    def test_found(self):
        self.assertEqual(ring_paper(read_machine("0NA---"), 5), (0, 1))
        self.assertEqual(ring_paper(read_machine("1NB--- ---1NC ---1NB"), 9), (1, 3))
        self.assertEqual(ring_paper(read_machine("1RB--- 1LC--- ---1RD ---1LC"), 9), (2, 4))

    def test_the_place_is_left_aside(self):
        self.assertEqual(ring_paper(read_machine("0RA---"), 5), (0, 1))

    def test_none(self):
        self.assertIsNone(ring_paper(read_machine("1RA---"), 50))
        self.assertIsNone(ring_paper(read_machine("1RB1LB 1LA1RZ"), 50))
        self.assertIsNone(ring_paper(read_machine("------"), 50))
        self.assertIsNone(ring_paper(read_machine("0NA---"), 0))
        self.assertIsNone(ring_paper(read_machine("1NB--- ---1NC ---1NB"), 2))

    def test_refused(self):
        with self.assertRaises(BadSize):
            ring_paper(read_machine("0NA---"), -1)

    def test_the_earliest(self):
        for machine in some_machines()[::25]:
            self.assertEqual(ring_paper(machine, 25), naive_ring(machine, 25))

    def test_check(self):
        self.assertEqual(check_ring(read_machine("0NA---"), (0, 1)), 1)
        self.assertEqual(check_ring(read_machine("0NA---"), [3, 7]), 4)
        self.assertEqual(check_ring(read_machine("1NB--- ---1NC ---1NB"), (1, 3)), 2)
        self.assertEqual(check_ring(read_machine("1NB--- ---1NC ---1NB"), (2, 6)), 4)

    def test_check_refused(self):
        ring = read_machine("1NB--- ---1NC ---1NB")
        for machine, paper in [(ring, (1, 1)), (ring, (3, 1)), (ring, (-1, 1)), (ring, (0, 2)), (ring, (1, 2)),
                               (read_machine("1RZ---"), (0, 2)), (read_machine("------"), (0, 1)),
                               (read_machine("1RA---"), (0, 1)), (read_machine("0NB--- 0NA---"), (0, 1))]:
            with self.subTest(machine=machine.shown(), paper=paper):
                with self.assertRaises(BadPaper):
                    check_ring(machine, paper)


class Moved(unittest.TestCase):
    def test_found(self):
        self.assertEqual(moved_paper(read_machine("1RA---"), 5), (1, 1, 2, 0))
        self.assertEqual(moved_paper(read_machine("1LA---"), 5), (-1, 1, 2, 0))
        self.assertEqual(moved_paper(read_machine("1RB--- 1RA---"), 9), (1, 1, 3, 0))

    def test_found_where_the_head_goes_back(self):
        machine = read_machine(BACK)
        self.assertIsNone(moved_paper(machine, 5))
        self.assertEqual(moved_paper(machine, 6), (1, 1, 6, 2))
        self.assertEqual(moved_paper(machine, 60), (1, 1, 6, 2))
        self.assertEqual(check_moved(machine, (1, 1, 6, 2)), 1)

    def test_none(self):
        self.assertIsNone(moved_paper(read_machine("1RA---"), 1))
        self.assertIsNone(moved_paper(read_machine("1RA---"), 0))
        self.assertIsNone(moved_paper(read_machine("1RB1LB 1LA1RZ"), 50))
        self.assertIsNone(moved_paper(read_machine("------"), 50))
        self.assertIsNone(moved_paper(read_machine("0NA---"), 50))
        self.assertIsNone(moved_paper(read_machine(BOUNCER), 300))

    def test_refused(self):
        with self.assertRaises(BadSize):
            moved_paper(read_machine("1RA---"), -1)

    def test_the_earliest_second_then_the_latest_first(self):
        found = {}
        for machine in some_machines()[::3]:
            paper = moved_paper(machine, 40)
            self.assertEqual(paper, naive_moved(machine, 40))
            found[paper] = True
        self.assertGreater(len(found), 20)
        self.assertGreater(max([paper[3] for paper in found if paper is not None]), 1)

    def test_the_depth_over_several_records(self):
        for text, paper in [("1RB0LB 1LA0RC 1LB0LB", (-1, 3, 9, 1)), ("1RB0LA 1LB1LC 1LA1RC", (-1, 3, 18, 3)),
                            ("1RB1LB 0RC1RC 1LC1RA", (1, 1, 12, 1)), ("1RB0LC 1LA1RA 0RA0LC", None)]:
            machine = read_machine(text)
            self.assertEqual(naive_moved(machine, 100), paper)
            self.assertEqual(moved_paper(machine, 100), paper)
            if paper is not None:
                check_moved(machine, paper)
                with self.assertRaises(BadPaper):
                    check_moved(machine, paper[:3] + (paper[3] - 1,))

    def test_back_depth(self):
        machine = read_machine(BOUNCER)
        history = machine.history(Tape(), 60)
        rights = [row for row in records(machine, 60) if row[1] == 1]
        self.assertEqual([row[0] for row in rights[:4]], [1, 6, 13, 22])
        depths = [back_depth(machine, history, rights[number - 1], rights[number]) for number in (1, 2, 3)]
        self.assertEqual(depths, [2, 3, 4])
        self.assertEqual(back_depth(machine, history, rights[0], rights[3]), 2)

    def test_back_depth_to_the_left_and_of_none(self):
        machine = read_machine("1LB1RA 0RA0LA")
        rows = [row for row in records(machine, 10) if row[1] == -1]
        self.assertEqual(back_depth(machine, machine.history(Tape(), 10), rows[0], rows[1]), 2)
        machine = read_machine("1RA---")
        rows = records(machine, 5)
        self.assertEqual(back_depth(machine, machine.history(Tape(), 5), rows[1], rows[4]), 0)

    def test_same_behind(self):
        one, other = Tape((1, 0, 1), 0, ()), Tape((1, 0, 0, 1), 0, ())
        self.assertEqual([same_behind(one, other, 1, depth) for depth in range(5)], [True, True, True, False, False])
        one, other = Tape((), 2, (1, 0, 1)), Tape((), 2, (1,))
        self.assertEqual([same_behind(one, other, -1, depth) for depth in range(5)], [True, True, True, False, False])

    def test_same_behind_past_all_signs(self):
        self.assertTrue(same_behind(Tape((1,), 0, ()), Tape((1,), 0, ()), 1, 9))
        self.assertTrue(same_behind(Tape(), Tape(), -1, 9))

    def test_not_the_same_behind(self):
        one, other = Tape((1, 1), 0, ()), Tape((0, 1), 0, ())
        self.assertEqual([same_behind(one, other, 1, depth) for depth in range(3)], [True, False, False])
        self.assertFalse(same_behind(Tape((), 1, ()), Tape(), 1, 0))
        self.assertFalse(same_behind(Tape((), 0, (1,)), Tape(), 1, 0))
        self.assertFalse(same_behind(Tape(), Tape((), 0, (1,)), 1, 0))
        self.assertFalse(same_behind(Tape((), 0, (1,)), Tape((), 0, (1,)), 1, 0))
        self.assertFalse(same_behind(Tape((1,), 0, ()), Tape((1,), 0, ()), -1, 0))

    def test_check(self):
        self.assertEqual(check_moved(read_machine("1RA---"), (1, 1, 2, 0)), 1)
        self.assertEqual(check_moved(read_machine("1LA---"), [-1, 2, 5, 0]), 3)
        self.assertEqual(check_moved(read_machine("1RA---"), (1, 3, 5, 2)), 2)
        self.assertEqual(check_moved(read_machine("1RB--- 1RA---"), (1, 1, 3, 0)), 2)

    def test_check_refused(self):
        right = "1RA---"
        for text, paper in [(right, (0, 1, 2, 0)), (right, (2, 1, 2, 0)), (right, (1, 0, 1, 0)), (right, (1, 2, 2, 0)),
                            (right, (1, 3, 2, 0)), (right, (-1, 1, 2, 0)), (right, (1, -1, 1, 0)),
                            ("1RB--- 1RA---", (1, 1, 2, 0)), ("0NA---", (1, 1, 2, 0)), ("1RZ---", (1, 1, 2, 0)),
                            (BACK, (1, 1, 5, 2)), (BACK, (1, 2, 6, 2)), (BACK, (-1, 1, 6, 2)), (BACK, (1, 1, 6, 1)),
                            (BACK, (1, 1, 6, -1)), (BACK, (1, 1, 6, 3)), (right, (1, 1, 2, 5)),
                            (BOUNCER, (1, 1, 6, 1)), (BOUNCER, (1, 1, 6, 2)), (BOUNCER, (1, 1, 6, 9))]:
            with self.subTest(text=text, paper=paper):
                with self.assertRaises(BadPaper):
                    check_moved(read_machine(text), paper)


class Grams(unittest.TestCase):
    def test_found(self):
        self.assertEqual(grams_paper(read_machine("0NA---"), 2), (((0, (0, 0), 0, (0, 0)),), ((0, 0),), ((0, 0),)))
        rows = ((0, (0,), 0, (0,)), (0, (1,), 0, (0,)))
        self.assertEqual(grams_paper(read_machine("1RA---"), 1), (rows, ((0,), (1,)), ((0,),)))
        rows = ((0, (0,), 0, (0,)), (0, (0,), 0, (1,)))
        self.assertEqual(grams_paper(read_machine("1LA---"), 1), (rows, ((0,),), ((0,), (1,))))

    def test_each_lot_in_order(self):
        for size in (1, 2, 3):
            paper = grams_paper(read_machine("1RB1LA 1LA0RB"), size)
            self.assertEqual(paper, tuple([tuple(sorted(lot)) for lot in paper]))
            self.assertTrue(all(len(word) == size for lot in paper[1:] for word in lot))

    def test_none_where_a_halt_is_among_them(self):
        self.assertIsNone(grams_paper(read_machine("------"), 1))
        self.assertIsNone(grams_paper(read_machine("1RZ---"), 1))
        self.assertIsNone(grams_paper(read_machine("1RB1LB 1LA1RZ"), 3))
        self.assertIsNone(grams_paper(read_machine(BOUNCER), 1))
        self.assertIsNotNone(grams_paper(read_machine(BOUNCER), 2))

    def test_refused(self):
        for size in (0, -1):
            with self.assertRaises(BadSize):
                grams_paper(read_machine("1RA---"), size)
        with self.assertRaises(BadSize):
            grams_paper(read_machine(BOUNCER), 2, 5)
        self.assertIsNotNone(grams_paper(read_machine(BOUNCER), 2, most=400))

    def test_the_count_is_of_all_rows_and_words(self):
        machine = read_machine(BOUNCER)
        count = check_grams(machine, grams_paper(machine, 2))
        self.assertEqual(grams_paper(machine, 2, count), grams_paper(machine, 2))
        with self.assertRaises(BadSize):
            grams_paper(machine, 2, count - 1)

    def test_holds_all_that_it_comes_to(self):
        for text in ("1RB1LA 1LA0RB", BOUNCER, "1RB2LA1RA 2LA2RB1LB", "0RB1NA 1LA1RB"):
            machine = read_machine(text)
            for size in (1, 2, 3):
                paper = grams_paper(machine, size)
                if paper is None:
                    continue
                far = range(1, size + 1)
                for state, tape in machine.history(Tape(), 200):
                    left = tuple([tape.at(-place) for place in far])
                    right = tuple([tape.at(place) for place in far])
                    self.assertIn((state, left, tape.here, right), paper[0])

    def test_grow_from_a_move_to_the_right(self):
        lots = ({}, {}, {(0, 1): True, (0, 2): True, (1, 1): True})
        here = (0, (1, 2), 0, (2, 0))
        self.assertIs(grow_from(read_machine("1RB------ ---------"), here, lots), True)
        self.assertEqual(sorted(lots[0]), [(1, (1, 1), 2, (0, 1)), (1, (1, 1), 2, (0, 2))])
        self.assertEqual(sorted(lots[1]), [(1, 2)])
        self.assertEqual(sorted(lots[2]), [(0, 1), (0, 2), (1, 1)])

    def test_grow_from_a_move_to_the_left(self):
        lots = ({}, {(2, 1): True, (0, 2): True}, {})
        here = (0, (1, 2), 0, (2, 0))
        self.assertIs(grow_from(read_machine("1LB------ ---------"), here, lots), True)
        self.assertEqual(sorted(lots[0]), [(1, (2, 1), 1, (1, 2))])
        self.assertEqual(sorted(lots[1]), [(0, 2), (2, 1)])
        self.assertEqual(sorted(lots[2]), [(2, 0)])

    def test_grow_from_no_move(self):
        lots = ({}, {}, {})
        self.assertIs(grow_from(read_machine("2NB------ ---------"), (0, (1,), 0, (2,)), lots), True)
        self.assertEqual([sorted(lot) for lot in lots], [[(1, (1,), 2, (2,))], [], []])

    def test_grow_from_a_halt(self):
        lots = ({}, {}, {})
        self.assertIs(grow_from(read_machine("1RZ---"), (0, (0,), 0, (0,)), lots), False)
        self.assertIs(grow_from(read_machine("1RZ---"), (0, (0,), 1, (0,)), lots), False)

    def test_check(self):
        self.assertEqual(check_grams(read_machine("1RA---"), grams_paper(read_machine("1RA---"), 1)), 5)
        self.assertEqual(check_grams(read_machine("0NA---"), [[[0, [0], 0, [0]]], [[0]], [[0]]]), 3)
        machine = read_machine(BOUNCER)
        paper = grams_paper(machine, 3)
        self.assertEqual(check_grams(machine, paper), sum([len(lot) for lot in paper]))

    def test_check_refused(self):
        rows, lefts, rights = grams_paper(read_machine("1RA---"), 1)
        for text, paper in [("1RA---", ()), ("1RA---", (rows, lefts)), ("1RA---", (rows, lefts, rights, rights)),
                            ("1RA---", (rows, (), rights)), ("1RA---", ((), (), ())),
                            ("1RA---", (((0, (), 0, ()),), ((),), ((),))),
                            ("1RA---", (rows[1:], lefts, rights)), ("1RA---", (rows, lefts[1:], rights)),
                            ("0NA---", (rows[:1], lefts[1:], rights)), ("0NA---", (rows[:1], rights, lefts[1:])),
                            ("1RA---", (rows, lefts, ())), ("1RA---", (rows, lefts, ((1,),))),
                            ("1RA---", (rows[:1], lefts, rights)), ("1RA---", (rows, lefts[:1], rights)),
                            ("1LA---", (rows, lefts, rights)), ("1RZ---", (rows, lefts, rights)),
                            ("------", (rows, lefts, rights)), ("0NB--- 0NA---", (rows, lefts, rights)),
                            ("1RA---", (rows, lefts, ((0,), (1,)))),
                            ("1RA---", (rows + ((0, (0,), 1, (0,)),), lefts, rights))]:
            with self.subTest(text=text, paper=paper):
                with self.assertRaises(BadPaper):
                    check_grams(read_machine(text), paper)

    def test_check_refused_where_anything_is_left_out(self):
        machine = read_machine(BOUNCER)
        paper = grams_paper(machine, 2)
        for lot in range(3):
            for one in paper[lot]:
                lots = list(paper)
                lots[lot] = tuple([other for other in paper[lot] if other != one])
                with self.assertRaises(BadPaper):
                    check_grams(machine, lots)


class Decided(unittest.TestCase):
    def test_each_kind(self):
        self.assertEqual(decide(read_machine("1RB1LB 1LA1RZ"), 6, 0), ("halts", 6))
        self.assertEqual(decide(read_machine("------"), 0, 0), ("halts", 0))
        self.assertEqual(decide(read_machine("0NA---"), 5, 2), ("ring", (0, 1)))
        self.assertEqual(decide(read_machine("1RA---"), 5, 2), ("moved", (1, 1, 2, 0)))
        machine = read_machine(BOUNCER)
        self.assertEqual(decide(machine, 50, 3), ("grams", grams_paper(machine, 2)))

    def test_none(self):
        self.assertIsNone(decide(read_machine("1RB1LB 1LA1RZ"), 5, 3))
        self.assertIsNone(decide(read_machine(BOUNCER), 50, 1))
        self.assertIsNone(decide(read_machine("1RA---"), 1, 0))

    def test_words_alone(self):
        self.assertEqual(decide(read_machine("1RA---"), 0, 1), ("grams", grams_paper(read_machine("1RA---"), 1)))

    def test_refused(self):
        with self.assertRaises(BadSize):
            decide(read_machine("1RA---"), -1, 2)

    def test_check(self):
        for text, halts in [("1RB1LB 1LA1RZ", True), ("------", True), ("0NA---", False), ("1RA---", False),
                            (BOUNCER, False)]:
            machine = read_machine(text)
            self.assertIs(check_decided(machine, decide(machine, 50, 2)), halts)

    def test_check_refused(self):
        for text, told in [("1RB1LB 1LA1RZ", ("halts", 5)), ("1RB1LB 1LA1RZ", ("halts", 7)), ("------", ("halts", 1)),
                           ("1RZ---", ("halts", 0)), ("1RA---", ("halts", 3)), ("1RA---", ("halts", -1)),
                           ("1RA---", ("halts", -2)), ("1RA---", ("ring", (0, 1))), ("0NA---", ("moved", (1, 1, 2, 0))),
                           ("0NA---", ("grams", ((), (), ()))), ("0NA---", ("ends", (0, 1))), ("0NA---", ("", 0))]:
            with self.subTest(text=text, told=told):
                with self.assertRaises(BadPaper):
                    check_decided(read_machine(text), told)

    def test_a_told_halt_is_its_halt_and_a_paper_of_none_shows_none(self):
        kinds = {}
        for machine in some_machines():
            told = decide(machine, 12, 2)
            kinds[told and told[0]] = True
            if told is None:
                continue
            self.assertEqual(check_decided(machine, told), told[0] == "halts")
            if told[0] == "halts":
                self.assertEqual(machine.run(Tape(), 12)[0], told[1])
            else:
                with self.assertRaises(NoEnd):
                    machine.run(Tape(), 60)
        self.assertEqual([kind for kind in ("halts", "ring", "moved", "grams") if kind not in kinds], [])


if __name__ == "__main__":
    unittest.main()
