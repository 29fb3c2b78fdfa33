"""Points 2 and 17: tapes, their words and their texts."""

import itertools
import unittest

from turingwright.errors import BadTape
from turingwright.tapes import Tape, first_of, of_word, read_tape, told_tape, trimmed, turned_tape


def some_tapes():
    """Return all tapes of up to two signs, of three, on each side."""
    rows = [row for size in range(3) for row in itertools.product(range(3), repeat=size)]
    return [Tape(left, here, right) for left in rows for here in range(3) for right in rows]


class Fields(unittest.TestCase):
    def test_bare(self):
        tape = Tape()
        self.assertEqual((tape.left, tape.here, tape.right), ((), 0, ()))

    def test_no_noughts_at_ends(self):
        tape = Tape([0, 1, 0, 0], 0, (0, 2, 0))
        self.assertEqual((tape.left, tape.here, tape.right), ((0, 1), 0, (0, 2)))
        self.assertEqual(type(tape.left), tuple)
        self.assertEqual(type(tape.right), tuple)

    def test_by_name(self):
        self.assertEqual(Tape(right=[3], here=2, left=[1]).shown(), ((1,), 2, (3,)))

    def test_rows_of_noughts_alone(self):
        self.assertEqual(Tape((0, 0), 0, [0]).shown(), ((), 0, ()))

    def test_what_is_handed_in_is_left_as_it_was(self):
        row = [1, 0]
        tape = Tape(row, 0, row)
        row.append(5)
        self.assertEqual(tape.shown(), ((1,), 0, (1,)))

    def test_refused(self):
        for left, here, right in [((-1,), 0, ()), ((), -1, ()), ((), 0, (1, -2)), (("1",), 0, ()),
                                  ((), "1", ()), ((), None, ()), ((), 0, (None, 1))]:
            with self.subTest(left=left, here=here, right=right):
                with self.assertRaises(BadTape):
                    Tape(left, here, right)


class Deeds(unittest.TestCase):
    def test_write(self):
        tape = Tape((1,), 2, (3,))
        self.assertEqual(tape.write(0).shown(), ((1,), 0, (3,)))
        self.assertEqual(tape.write(9).shown(), ((1,), 9, (3,)))
        self.assertEqual(tape.shown(), ((1,), 2, (3,)))

    def test_write_refused(self):
        tape = Tape((1,), 2, (3,))
        for sign in (-1, "1", None):
            with self.assertRaises(BadTape):
                tape.write(sign)
        self.assertEqual(tape.shown(), ((1,), 2, (3,)))

    def test_move(self):
        tape = Tape((1, 4), 2, (3, 5))
        self.assertEqual(tape.move(1).shown(), ((2, 1, 4), 3, (5,)))
        self.assertEqual(tape.move(-1).shown(), ((4,), 1, (2, 3, 5)))
        self.assertEqual(tape.move(0).shown(), ((1, 4), 2, (3, 5)))
        self.assertEqual(tape.shown(), ((1, 4), 2, (3, 5)))

    def test_move_past_the_ends(self):
        self.assertEqual(Tape().move(1).shown(), ((), 0, ()))
        self.assertEqual(Tape().move(-1).shown(), ((), 0, ()))
        self.assertEqual(Tape((), 1, ()).move(1).move(1).shown(), ((0, 1), 0, ()))
        self.assertEqual(Tape((), 1, ()).move(-1).move(-1).shown(), ((), 0, (0, 1)))

    def test_move_drops_noughts_at_ends(self):
        self.assertEqual(Tape((), 0, (1,)).move(1).shown(), ((), 1, ()))
        self.assertEqual(Tape((1,), 0, ()).move(-1).shown(), ((), 1, ()))

    def test_move_there_and_back(self):
        for tape in some_tapes():
            self.assertEqual(tape.move(1).move(-1).shown(), tape.shown())
            self.assertEqual(tape.move(-1).move(1).shown(), tape.shown())

    def test_move_refused(self):
        for way in (2, -2, 10, "R"):
            with self.assertRaises(BadTape):
                Tape().move(way)

    def test_at(self):
        tape = Tape((1, 0, 4), 2, (3, 5))
        self.assertEqual([tape.at(place) for place in range(-5, 5)], [0, 0, 4, 0, 1, 2, 3, 5, 0, 0])
        self.assertEqual([Tape().at(place) for place in (-1, 0, 1)], [0, 0, 0])

    def test_at_is_what_the_head_comes_to(self):
        for tape in some_tapes():
            self.assertEqual(tape.at(2), tape.move(1).move(1).here)
            self.assertEqual(tape.at(-2), tape.move(-1).move(-1).here)

    def test_ones(self):
        self.assertEqual(Tape().ones(), 0)
        self.assertEqual(Tape((1, 0, 4), 2, (0, 5)).ones(), 4)
        self.assertEqual(Tape((1,), 0, (1,)).ones(), 2)

    def test_span(self):
        self.assertEqual(Tape().span(), 1)
        self.assertEqual(Tape((0, 0, 1), 0, ()).span(), 4)
        self.assertEqual(Tape((), 0, (0, 1)).span(), 3)
        self.assertEqual(Tape((1, 2), 3, (4,)).span(), 4)

    def test_word(self):
        self.assertEqual(Tape().word(), (0,))
        self.assertEqual(Tape((1, 2), 3, (4, 5)).word(), (2, 1, 3, 4, 5))
        self.assertEqual(Tape((0, 1), 0, ()).word(), (1, 0, 0))

    def test_shown(self):
        self.assertEqual(Tape([1], 2, [3, 0]).shown(), ((1,), 2, (3,)))


class Rows(unittest.TestCase):
    def test_trimmed(self):
        self.assertEqual(trimmed([0, 1, 0, 0]), (0, 1))
        self.assertEqual(trimmed((0, 0)), ())
        self.assertEqual(trimmed([]), ())
        self.assertEqual(trimmed((3,)), (3,))

    def test_first_of(self):
        self.assertEqual(first_of((4, 1)), 4)
        self.assertEqual(first_of([7]), 7)
        self.assertEqual(first_of(()), 0)

    def test_of_word(self):
        self.assertEqual(of_word((1, 2, 3), 1).shown(), ((1,), 2, (3,)))
        self.assertEqual(of_word([1, 2, 3]).shown(), ((), 1, (2, 3)))
        self.assertEqual(of_word((1, 2, 3, 4), 3).shown(), ((3, 2, 1), 4, ()))
        self.assertEqual(of_word((0, 0, 1, 0), 3).shown(), ((1,), 0, ()))

    def test_of_word_of_a_bare_row(self):
        self.assertEqual(of_word(()).shown(), ((), 0, ()))
        self.assertEqual(of_word([], 0).shown(), ((), 0, ()))

    def test_of_word_refused(self):
        for word, place in [((), 1), ((), -1), ((1, 2), 2), ((1, 2), -1), ([1, -1], 0), (["1"], 0)]:
            with self.subTest(word=word, place=place):
                with self.assertRaises(BadTape):
                    of_word(word, place)

    def test_of_word_of_a_word(self):
        for tape in some_tapes():
            self.assertEqual(of_word(tape.word(), len(tape.left)).shown(), tape.shown())

    def test_turned_tape(self):
        self.assertEqual(turned_tape(Tape((1, 2), 3, (4,))).shown(), ((4,), 3, (1, 2)))
        self.assertEqual(turned_tape(Tape()).shown(), ((), 0, ()))
        for tape in some_tapes():
            self.assertEqual(turned_tape(tape).word(), tape.word()[::-1])


class Texts(unittest.TestCase):
    def test_told(self):
        self.assertEqual(told_tape(Tape()), "[0]")
        self.assertEqual(told_tape(Tape((1, 2), 3, (4, 9))), "21[3]49")
        self.assertEqual(told_tape(Tape((0, 1), 0, (0, 0))), "10[0]")

    def test_told_refused(self):
        for tape in (Tape((10,), 0, ()), Tape((), 10, ()), Tape((), 0, (1, 12))):
            with self.assertRaises(BadTape):
                told_tape(tape)

    def test_read(self):
        self.assertEqual(read_tape("[0]").shown(), ((), 0, ()))
        self.assertEqual(read_tape("21[3]49").shown(), ((1, 2), 3, (4, 9)))
        self.assertEqual(read_tape("0021[0]400").shown(), ((1, 2), 0, (4,)))

    def test_read_refused(self):
        for text in ("", "1", "12", "[]", "[12]", "1[2", "1]2", "]1[", "1[2]3[4]", "1[2]]", "[[1]]", "a[1]", "[a]",
                     "1[2]b3", "1a1[2]", " [1]", "[1] ", "1 1[0]", "-1[1]", "[1]\n", "1[ ]"):
            with self.subTest(text=text):
                with self.assertRaises(BadTape):
                    read_tape(text)

    def test_told_and_read_again(self):
        for tape in some_tapes():
            self.assertEqual(read_tape(told_tape(tape)).shown(), tape.shown())


if __name__ == "__main__":
    unittest.main()
