"""Points 12 and 17: rings of cells, what comes of what, and what is told of rows without end."""

import itertools
import unittest

from turingwright.cells import (Cells, adds_up, all_rings, bit, both, check_row, is_one_to_one, is_onto, keeps_ones,
                                orphan, ring_kinds)
from turingwright.errors import BadMachine, BadSize, BadTape

ALL = [Cells(number) for number in range(256)]
ONTO = (15, 30, 45, 51, 60, 75, 85, 86, 89, 90, 101, 102, 105, 106, 120, 135, 149, 150, 153, 154, 165, 166, 169, 170,
        180, 195, 204, 210, 225, 240)
PAIRS = [(0, 0), (0, 1), (1, 0), (1, 1)]
BAD_ROWS = ((), [], (2,), (0, 1, -1), ("0",), (0, None), "01")


def made_of(cells, word):
    """Return the word, two shorter, that comes of one."""
    return tuple([cells.of(*word[place:place + 3]) for place in range(len(word) - 2)])


def first_orphan(cells, longest):
    """Return the first word that comes of none, by trying all."""
    for size in range(1, longest + 1):
        come = {made_of(cells, word) for word in all_rings(size + 2)}
        for word in all_rings(size):
            if word not in come:
                return word
    return None


class Fields(unittest.TestCase):
    def test_number(self):
        for number in (0, 110, 255):
            self.assertEqual(Cells(number).number, number)
            self.assertEqual(Cells(number).shown(), number)

    def test_refused(self):
        for number in (-1, 256, 1000, -256):
            with self.assertRaises(BadMachine):
                Cells(number)


class Steps(unittest.TestCase):
    def test_of(self):
        # 110 is 01101110 by two: 111 first.
        made = [Cells(110).of(*three) for three in itertools.product((1, 0), repeat=3)]
        self.assertEqual(made, [0, 1, 1, 0, 1, 1, 1, 0])

    def test_bit(self):
        for cells in ALL:
            bits = [bit(cells, three) for three in range(8)]
            self.assertEqual(sum([one * 2 ** three for three, one in enumerate(bits)]), cells.number)
            self.assertEqual(bits, [cells.of(*three) for three in itertools.product((0, 1), repeat=3)])

    def test_step(self):
        self.assertEqual(Cells(110).step([0, 0, 0, 1, 0]), (0, 0, 1, 1, 0))
        self.assertEqual(Cells(170).step((1, 0, 0, 1, 1)), (0, 0, 1, 1, 1))
        self.assertEqual(Cells(240).step((1, 0, 0, 1, 1)), (1, 1, 0, 0, 1))
        self.assertEqual(Cells(204).step((1, 0, 0, 1, 1)), (1, 0, 0, 1, 1))

    def test_small_rings_are_their_own_neighbours(self):
        for cells in ALL:
            self.assertEqual(cells.step((0,)), (cells.of(0, 0, 0),))
            self.assertEqual(cells.step((1,)), (cells.of(1, 1, 1),))
            self.assertEqual(cells.step((0, 1)), (cells.of(1, 0, 1), cells.of(0, 1, 0)))

    def test_history(self):
        self.assertEqual(Cells(90).history([0, 0, 1, 0, 0], 2), ((0, 0, 1, 0, 0), (0, 1, 0, 1, 0), (1, 0, 0, 0, 1)))
        self.assertEqual(Cells(90).history([1, 1], 0), ((1, 1),))

    def test_ring(self):
        self.assertEqual(Cells(204).ring((0, 1)), (0, 1))
        self.assertEqual(Cells(170).ring([0, 0, 1]), (0, 3))
        self.assertEqual(Cells(0).ring((1, 0)), (1, 1))
        self.assertEqual(Cells(51).ring((1, 0, 0)), (0, 2))
        self.assertEqual(Cells(90).ring((0, 0, 0, 1)), (2, 1))
        self.assertEqual(Cells(90).ring((0, 0, 1)), (1, 1))
        self.assertEqual(Cells(90).ring((0, 0, 0, 0, 1)), (1, 3))

    def test_ring_by_history(self):
        for cells in ALL[::7]:
            for row in [(1,), (0, 0, 1), (0, 1, 1, 0, 1), (1, 0, 0, 0, 0, 0)]:
                ahead, till = cells.ring(row)
                rows = cells.history(row, ahead + till)
                self.assertEqual(len(set(rows)), ahead + till)
                self.assertEqual(rows[ahead], rows[-1])

    def test_refused(self):
        cells = Cells(110)
        for row in BAD_ROWS:
            for deed in (check_row, cells.step, cells.ring, cells.ahead, lambda row: cells.history(row, 0),
                         lambda row: cells.history(row, 3)):
                with self.assertRaises(BadTape):
                    deed(row)
        with self.assertRaises(BadSize):
            cells.history((0, 1), -1)

    def test_check_row(self):
        self.assertEqual(check_row([1, 0]), (1, 0))
        self.assertIsInstance(check_row([1]), tuple)


class Ahead(unittest.TestCase):
    def test_all_that_lead_to_one_in_order(self):
        for cells, size in itertools.product(ALL[::3], range(1, 6)):
            for ring in all_rings(size):
                ahead = tuple([one for one in all_rings(size) if cells.step(one) == ring])
                self.assertEqual(cells.ahead(list(ring)), ahead)

    def test_some(self):
        self.assertEqual(Cells(204).ahead((0, 1, 1)), ((0, 1, 1),))
        self.assertEqual(Cells(0).ahead((0, 0)), ((0, 0), (0, 1), (1, 0), (1, 1)))
        self.assertEqual(Cells(0).ahead((0, 1)), ())

    def test_went_on(self):
        cells = Cells(110)
        ways = [(0, 0), (0, 1), (1, 0), [1, 1, 1]]
        self.assertEqual(cells.went_on(ways, 1), [(0, 0, 1), (0, 1, 0), (0, 1, 1), (1, 0, 1), (1, 1, 1, 0)])
        self.assertEqual(cells.went_on(ways, 0), [(0, 0, 0), (1, 0, 0), (1, 1, 1, 1)])
        self.assertEqual(cells.went_on([], 0), [])
        self.assertEqual(ways, [(0, 0), (0, 1), (1, 0), [1, 1, 1]])


class Turned(unittest.TestCase):
    def test_turned(self):
        self.assertEqual([Cells(number).turned().number for number in (110, 170, 204, 30)], [124, 240, 204, 86])
        for cells in ALL:
            self.assertEqual(cells.turned().step((0, 1, 1, 0, 0)), cells.step((0, 0, 1, 1, 0))[::-1])
            self.assertEqual(cells.turned().turned().number, cells.number)

    def test_swapped(self):
        self.assertEqual([Cells(number).swapped().number for number in (110, 0, 204, 30)], [137, 255, 204, 135])
        for cells in ALL:
            other = tuple([1 - sign for sign in cells.step((1, 0, 0, 1, 1))])
            self.assertEqual(cells.swapped().step((0, 1, 1, 0, 0)), other)
            self.assertEqual(cells.swapped().swapped().number, cells.number)

    def test_cells_are_left_as_they_were(self):
        cells = Cells(110)
        self.assertIsInstance(cells.turned(), Cells)
        self.assertIsInstance(cells.swapped(), Cells)
        self.assertEqual(cells.number, 110)


class RowsWithoutEnd(unittest.TestCase):
    def test_is_onto(self):
        self.assertEqual(tuple([cells.number for cells in ALL if is_onto(cells)]), ONTO)
        self.assertIs(is_onto(Cells(30)), True)
        self.assertIs(is_onto(Cells(110)), False)

    def test_orphan(self):
        self.assertEqual(orphan(Cells(110), 9), (0, 1, 0, 1, 0))
        self.assertEqual(orphan(Cells(0), 1), (1,))
        self.assertEqual(orphan(Cells(255), 1), (0,))
        self.assertIsNone(orphan(Cells(110), 4))
        self.assertEqual(orphan(Cells(110), 5), (0, 1, 0, 1, 0))
        self.assertIsNone(orphan(Cells(0), 0))
        self.assertIsNone(orphan(Cells(30), 10 ** 9))

    def test_an_orphan_by_trying_all(self):
        for cells in ALL:
            self.assertEqual(orphan(cells, 5), first_orphan(cells, 5))
        self.assertEqual(orphan(Cells(22), 20), first_orphan(Cells(22), 9))

    def test_orphan_refused(self):
        for longest in (-1, -9):
            with self.assertRaises(BadSize):
                orphan(Cells(110), longest)

    def test_is_one_to_one(self):
        self.assertEqual([cells.number for cells in ALL if is_one_to_one(cells)], [15, 51, 85, 170, 204, 240])
        self.assertIs(is_one_to_one(Cells(204)), True)
        self.assertIs(is_one_to_one(Cells(90)), False)

    def test_one_to_one_on_all_rings(self):
        for cells in ALL:
            if is_one_to_one(cells):
                self.assertTrue(is_onto(cells))
                for size in range(1, 8):
                    self.assertEqual(len({cells.step(ring) for ring in all_rings(size)}), 2 ** size)

    def test_both(self):
        alive = {(one, other): True for one in PAIRS for other in PAIRS}
        shift = Cells(170)
        # Moved to the left, each sign is that of the right neighbour.
        self.assertIs(both(shift, ((0, 0), (1, 1)), alive, True), True)
        self.assertIs(both(shift, ((0, 0), (1, 1)), alive, False), False)
        self.assertIs(both(shift, ((0, 1), (1, 1)), alive, False), True)
        self.assertIs(both(Cells(51), ((0, 0), (1, 0)), alive, True), True)
        self.assertIs(both(Cells(51), ((0, 0), (0, 1)), alive, True), False)

    def test_both_among_those_alive(self):
        cells = Cells(0)
        self.assertIs(both(cells, ((0, 0), (1, 1)), {}, True), False)
        self.assertIs(both(cells, ((0, 0), (1, 1)), {((0, 1), (1, 0)): True}, True), True)
        self.assertIs(both(cells, ((0, 0), (1, 1)), {((0, 1), (1, 0)): True}, False), False)
        self.assertIs(both(cells, ((0, 0), (1, 1)), {((1, 0), (0, 1)): True}, False), True)
        self.assertIs(both(cells, ((0, 0), (1, 1)), {((0, 0), (0, 1)): True}, True), False)
        self.assertIs(both(cells, ((0, 0), (1, 1)), {((0, 1), (1, 0)): False}, True), False)

    def test_both_leaves_those_alive_as_they_were(self):
        alive = {((0, 1), (1, 0)): True}
        both(Cells(0), ((0, 0), (1, 1)), alive, True)
        self.assertEqual(alive, {((0, 1), (1, 0)): True})


class Rings(unittest.TestCase):
    def test_all_rings(self):
        self.assertEqual(all_rings(2), [(0, 0), (0, 1), (1, 0), (1, 1)])
        self.assertEqual(all_rings(0), [()])
        for size in range(1, 7):
            self.assertEqual(all_rings(size), list(itertools.product((0, 1), repeat=size)))

    def test_ring_kinds(self):
        for cells, size in itertools.product(ALL[::5], range(1, 6)):
            rings = all_rings(size)
            none = [ring for ring in rings if not cells.ahead(ring)]
            again = [ring for ring in rings if cells.ring(ring)[0] == 0]
            self.assertEqual(ring_kinds(cells, size), (len(none), len(again)))
        self.assertEqual(ring_kinds(Cells(204), 10), (0, 1024))
        self.assertEqual(ring_kinds(Cells(0), 1), (1, 1))
        self.assertEqual(ring_kinds(Cells(90), 8), (192, 1))

    def test_ring_kinds_refused(self):
        for size in (0, -1, 11, 99):
            with self.assertRaises(BadSize):
                ring_kinds(Cells(110), size)

    def test_adds_up(self):
        self.assertEqual([cells.number for cells in ALL if adds_up(cells)], [0, 60, 90, 102, 150, 170, 204, 240])
        for cells in ALL:
            sums = True
            for one, other in itertools.product(all_rings(3), repeat=2):
                row = [first ^ second for first, second in zip(one, other)]
                made = [first ^ second for first, second in zip(cells.step(one), cells.step(other))]
                sums = sums and cells.step(row) == tuple(made)
            self.assertIs(adds_up(cells), sums)

    def test_keeps_ones(self):
        self.assertEqual([cells.number for cells in ALL if keeps_ones(cells)], [170, 184, 204, 226, 240])
        self.assertIs(keeps_ones(Cells(184)), True)
        self.assertIs(keeps_ones(Cells(110)), False)


if __name__ == "__main__":
    unittest.main()
