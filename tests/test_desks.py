"""Points 16, 17 and 1: desks, their lines, what is refused and in which order, what is written and done again."""

import itertools
import unittest

from turingwright.desks import BASE, WIDE, Desk, done_again, figure_of, lines_of, number, told_place
from turingwright.errors import (BadMachine, BadPaper, BadSize, BadStore, BadTape, BadTerm, BadText, NoEnd, NoSuch)
from turingwright.machines import HALT, Machine, read_machine
from turingwright.papers import grams_paper
from turingwright.tapes import Tape, read_tape

BEAVER = "machine 1RB1LB 1LA1RZ"
ASKING = ("place", "ones", "rows", "states", "end 50", "decide 50")
DEEDS = (BEAVER, "step 3", "tape 1[0]1", "step 999", "behind", "step 2", "tape [1]", "machine 1RA2LB--- 2LB1RZ0RA",
         "step 0")
NO_LINES = ("", " ", "machine", "tape", "tape [0] 1", "step", "step 1 2", "behind 1", "place 1", "rows 1", "end",
            "end 1 2", "decide", "decide 1 2", "states 1", "ones 1", "what", "Place", "place\n", "step 1\nstep 1", "\n",
            "steps 1", "stepp", "1 step", "halt 3")
BAD_NUMBERS = ("x", "-1", "1000", "0001", "1.5", "+1", "1x", "x1", "1_0")


def told(desk):
    """Return all that is read of a desk from outside."""
    shown = None if desk.machine is None else desk.machine.shown()
    return (shown, desk.state, desk.tape.shown(), desk.text, desk.many)


def desk_of(lines):
    """Return a desk that lines were said to."""
    desk = Desk()
    for line in lines:
        desk.say(line)
    return desk


def written(rows):
    """Return the text of (words, number) rows with right figures."""
    return "".join([f"{place} {words} {figure_of(f'{place} {words}')}\n" for place, words in rows])


class Small(unittest.TestCase):
    def test_number(self):
        self.assertEqual([number(word) for word in ("0", "7", "07", "007", "42", "999")], [0, 7, 7, 7, 42, 999])
        for word in BAD_NUMBERS + ("", " ", "1 2", " 1", "1 "):
            with self.assertRaises(BadText):
                number(word)

    def test_figure_of(self):
        self.assertEqual((BASE, WIDE), (9973, 2000003))
        self.assertEqual(figure_of(""), 0)
        self.assertEqual(figure_of("A"), 65 * 9973 + 65)
        self.assertEqual(figure_of("AB"), 131 * 9973 + 65 + 2 * 66)
        text = "machine 1RB1LB 1LA1RZ" * 2000
        plain = sum(ord(sign) for sign in text)
        weighed = sum(ord(sign) * place for place, sign in enumerate(text, 1))
        self.assertGreater(plain, WIDE)
        self.assertEqual(figure_of(text), plain % WIDE * BASE + weighed % BASE)

    def test_figures_tell_texts_apart(self):
        texts = ["".join(signs) for signs in itertools.permutations("0 step 12")]
        self.assertNotEqual(figure_of("ab"), figure_of("ba"))
        self.assertGreater(len({figure_of(text) for text in texts[:500]}), 50)

    def test_told_place(self):
        self.assertEqual(told_place(0, Tape()), "A [0]")
        self.assertEqual(told_place(HALT, read_tape("1[2]03")), "Z 1[2]03")
        self.assertEqual(told_place(19, Tape()), "T [0]")
        with self.assertRaises(BadTape):
            told_place(0, Tape((), 10))


class Fields(unittest.TestCase):
    def test_a_new_desk(self):
        self.assertEqual(told(Desk()), (None, 0, ((), 0, ()), "", 0))

    def test_fields(self):
        desk = desk_of([BEAVER, "step 4"])
        self.assertEqual(desk.machine.shown(), read_machine("1RB1LB 1LA1RZ").shown())
        self.assertEqual((desk.state, desk.tape.shown(), desk.many), (0, ((), 0, (1, 1, 1)), 2))
        self.assertEqual(desk.text, written([(0, BEAVER), (1, "step 4")]))


class Lines(unittest.TestCase):
    def test_machine(self):
        desk = Desk()
        self.assertEqual(desk.say(BEAVER), "A [0]")
        self.assertEqual(desk.say("rows"), "1RB1LB 1LA1RZ")
        desk.say("step 3")
        self.assertEqual(desk.say("  machine   1RA---  "), "A [0]")
        self.assertEqual(desk.say("rows"), "1RA---")

    def test_tape(self):
        desk = desk_of([BEAVER, "step 1"])
        self.assertEqual(desk.say("tape 00[1]020"), "A [1]02")
        self.assertEqual(desk.state, 0)
        self.assertEqual(desk.say("place"), "A [1]02")

    def test_step(self):
        desk = desk_of([BEAVER])
        self.assertEqual(desk.say("step 0"), "A [0]")
        self.assertEqual(desk.say("step 1"), "B 1[0]")
        self.assertEqual(desk.say("step 002"), "B [0]11")
        self.assertEqual(desk.say("step 999"), "Z 11[1]1")
        self.assertEqual(desk.say("step 1"), "Z 11[1]1")

    def test_step_up_to_a_halt_at_once(self):
        desk = desk_of(["machine 1RB--- 0LA---", "tape [0]1"])
        self.assertEqual(desk.say("step 9"), "B 1[1]")
        self.assertEqual(desk.say("step 9"), "B 1[1]")

    def test_behind(self):
        desk = desk_of([BEAVER, "step 3"])
        self.assertEqual(desk.say("behind"), "A [0]")
        self.assertEqual(desk.say("rows"), "1LB1RB 1RA1LZ")
        self.assertEqual(desk.say("step 999"), "Z 1[1]11")
        desk.say("behind")
        self.assertEqual(desk.say("rows"), "1RB1LB 1LA1RZ")

    def test_end(self):
        desk = desk_of([BEAVER])
        self.assertEqual(desk.say("end 6"), "6 Z 11[1]1")
        self.assertEqual(desk.say("end 5"), "error: no end")
        desk.say("step 2")
        self.assertEqual(desk.say("end 4"), "4 Z 11[1]1")
        self.assertEqual(desk.say("place"), "A [1]1")
        desk.say("step 4")
        self.assertEqual(desk.say("end 0"), "0 Z 11[1]1")

    def test_decide(self):
        for text, answer in [("1RB1LB 1LA1RZ", "halts 6"), ("0RB--- 0LA---", "ring"), ("1RA1RA", "moved"),
                             ("---1RA", "halts 0"), ("1RB1LA 0LA0RA", "moved")]:
            desk = desk_of(["machine " + text, "tape 1[1]"])
            self.assertEqual(desk.say("decide 50"), answer)
        desk = desk_of([BEAVER])
        self.assertEqual(desk.say("decide 6"), "halts 6")
        self.assertNotEqual(desk.say("decide 5"), "halts 6")

    def test_decide_grams_and_open(self):
        # Without steps, only lots of words can show that there is no halt.
        self.assertEqual(desk_of(["machine 1RA1RA"]).say("decide 0"), "grams")
        self.assertEqual(desk_of(["machine 1RB1LB 1LA1RZ"]).say("decide 0"), "open")

    def test_decide_by_words_two_long_at_most(self):
        for text, size, answer in [("0LC1RC 1RB0LA 0LB---", 2, "grams"), ("1RC0RB 0RA0LC 1LB---", 3, "open")]:
            machine = read_machine(text)
            self.assertIsNone(grams_paper(machine, size - 1))
            self.assertIsNotNone(grams_paper(machine, size))
            self.assertEqual(desk_of(["machine " + text]).say("decide 0"), answer)

    def test_states_and_ones(self):
        desk = desk_of(["machine 1RC--- 1RA1RA 1LD0RC 0RZ1LA", "tape 3[0]014"])
        self.assertEqual(desk.say("states"), "0 2 3")
        self.assertEqual(desk.say("ones"), "3")

    def test_without_a_machine(self):
        desk = Desk()
        self.assertEqual(desk.say("place"), "A [0]")
        self.assertEqual(desk.say("ones"), "0")
        for line in ("rows", "states", "end 5", "decide 5", "step 5", "behind", "tape [0]"):
            self.assertEqual(desk.say(line), "error: no such")
        with self.assertRaises(NoSuch):
            desk.mine()
        self.assertEqual(told(desk), told(Desk()))

    def test_asking_changes_nothing(self):
        desk = desk_of([BEAVER, "step 3"])
        before = told(desk)
        for line in ASKING:
            self.assertEqual(desk.say(line), desk.say(line))
        self.assertEqual(told(desk), before)

    def test_answer(self):
        desk = desk_of([BEAVER, "step 6"])
        for line in ASKING:
            self.assertEqual(desk.answer(line.split()), desk.say(line))
            self.assertEqual(desk.answer(tuple(line.split())), desk.do(line))
        for words in [(), ["what"], ["step", "1"], ["place", "1"]]:
            with self.assertRaises(BadText):
                desk.answer(words)

    def test_let(self):
        desk = Desk()
        machine = read_machine("1RA---")
        self.assertEqual(desk.let(machine, 0, Tape((), 1), ["some", "words"]), "A [1]")
        self.assertEqual((desk.machine, desk.many), (machine, 1))
        self.assertEqual(desk.text, written([(0, "some words")]))
        before = told(desk)
        with self.assertRaises(BadTape):
            desk.let(Machine(1, 12, {}), 0, Tape((), 11), ("other", "words"))
        self.assertEqual(told(desk), before)


class Refused(unittest.TestCase):
    def test_no_lines(self):
        for desk in (Desk(), desk_of([BEAVER, "step 3"])):
            before = told(desk)
            for line in NO_LINES:
                with self.subTest(line=line):
                    self.assertEqual(desk.say(line), "error: text")
                    with self.assertRaises(BadText):
                        desk.do(line)
            self.assertEqual(told(desk), before)

    def test_the_machine_is_asked_for_ahead_of_a_number(self):
        for first, word in itertools.product(("step", "end", "decide"), BAD_NUMBERS):
            self.assertEqual(Desk().say(f"{first} {word}"), "error: no such")
            self.assertEqual(desk_of([BEAVER]).say(f"{first} {word}"), "error: text")

    def test_a_tape_s_text_is_read_ahead_of_the_machine(self):
        for text in ("0", "[]", "[10]", "1[x]", "a[0]", "[0]b", "[0", "0]"):
            self.assertEqual(Desk().say("tape " + text), "error: tape")
            self.assertEqual(desk_of([BEAVER]).say("tape " + text), "error: tape")

    def test_machines(self):
        for text, answer in [("1RB", "text"), ("1RA---x", "text"), ("9RA---", "text"), ("1XA---", "text"),
                             ("1RU---", "text"), ("1RA--- 1RB", "text"), ("1RB---", "machine"), ("2RA---", "machine"),
                             (" ".join(["1RA---"] * 21), "text")]:
            for desk in (Desk(), desk_of([BEAVER])):
                before = told(desk)
                self.assertEqual(desk.say("machine " + text), "error: " + answer)
                self.assertEqual(told(desk), before)

    def test_a_sign_that_the_machine_has_not(self):
        desk = desk_of([BEAVER, "tape 1[5]"])
        before = told(desk)
        for line in ("step 1", "end 5"):
            self.assertEqual(desk.say(line), "error: machine")
            with self.assertRaises(BadMachine):
                desk.do(line)
        self.assertEqual(desk.say("step 0"), "A 1[5]")
        self.assertEqual(desk.text, before[3] + written([(2, "step 0")]))

    def test_each_by_its_kind(self):
        kinds = [(BadText, "text"), (BadMachine, "machine"), (BadTape, "tape"), (BadTerm, "term"), (BadPaper, "paper"),
                 (BadSize, "size"), (NoEnd, "no end"), (NoSuch, "no such")]

        class Refusing(Desk):
            def do(self, line):
                raise kinds[int(line)][0]("refused")

        for place, (kind, answer) in enumerate(kinds):
            self.assertEqual(Refusing().say(str(place)), "error: " + answer)

    def test_whatever_was_refused_ahead(self):
        desk = desk_of([BEAVER])
        answers = [("end 5", "error: no end"), ("step x", "error: text"), ("tape 1", "error: tape"), ("step 2", None),
                   ("machine 1RC---", "error: machine"), ("what", "error: text"), ("end 3", "error: no end"),
                   ("place", "A [1]1")]
        for _ in range(2):
            for line, answer in answers:
                found = desk.say(line)
                if answer is not None:
                    self.assertEqual(found, answer)
            desk.say("tape [0]")


class Written(unittest.TestCase):
    def test_the_text(self):
        desk = desk_of([BEAVER, "place", "what", "step 3", "  tape   1[0]1 ", "tape x", "behind", "end 1"])
        self.assertEqual(desk.text, written([(0, BEAVER), (1, "step 3"), (2, "tape 1[0]1"), (3, "behind")]))
        self.assertEqual(desk.many, 4)

    def test_a_row(self):
        desk = desk_of([BEAVER])
        body = "0 machine 1RB1LB 1LA1RZ"
        plain = sum(ord(sign) for sign in body)
        weighed = sum(ord(sign) * place for place, sign in enumerate(body, 1))
        self.assertEqual(desk.text, f"{body} {plain * 9973 + weighed % 9973}\n")

    def test_lines_of(self):
        desk = desk_of(DEEDS)
        self.assertEqual(lines_of(desk.text), DEEDS)
        self.assertEqual(lines_of(""), ())
        self.assertEqual(lines_of("no end"), ())
        self.assertEqual(lines_of(desk.text + "9 step 1 5"), DEEDS)

    def test_done_again_answers_alike(self):
        for count in range(len(DEEDS) + 1):
            desk = desk_of(DEEDS[:count])
            again = done_again(desk.text)
            self.assertIsInstance(again, Desk)
            self.assertEqual(told(again), told(desk))
            for line in ASKING + DEEDS:
                self.assertEqual(again.say(line), desk.say(line))
            self.assertEqual(again.text, desk.text)

    def test_cut_at_any_place(self):
        text = desk_of(DEEDS).text
        for end in range(len(text) + 1):
            whole = text[:end].count("\n")
            self.assertEqual(lines_of(text[:end]), DEEDS[:whole])
            self.assertEqual(told(done_again(text[:end])), told(desk_of(DEEDS[:whole])))

    def test_rows_that_are_not_whole(self):
        text = desk_of(DEEDS[:3]).text
        rows = text.splitlines(True)
        for wrong in [rows[1], rows[0] + rows[2], rows[0] + rows[0], "\n", "\n" + text, text + "\n",
                      text.replace("3", "4", 1), text.replace(" ", "  ", 1), " " + text,
                      text.replace("\n", " \n", 1), "0\n", "0 step 1\n", "x y 5\n",
                      text.replace("machine", "machina"), rows[1] + rows[0], "00" + text]:
            with self.subTest(wrong=wrong):
                with self.assertRaises(BadStore):
                    lines_of(wrong)
                with self.assertRaises(BadStore):
                    done_again(wrong)

    def test_each_sign_of_a_row_counts(self):
        text = desk_of([BEAVER, "step 3"]).text
        for place, sign in enumerate(text[:-1]):
            other = "7" if sign != "7" else "8"
            with self.assertRaises(BadStore):
                done_again(text[:place] + other + text[place + 1:])

    def test_what_can_not_be(self):
        first = (0, BEAVER)
        for rows in [[(0, "step 3")], [(0, "tape [0]")], [(0, "behind")], [(0, "machine 1RB---")], [first, (1, "what")],
                     [first, (1, "step x")], [first, (1, "tape [9]"), (2, "step 1")], [first, (1, "place")],
                     [(0, "place")], [first, (1, "end 50")], [first, (1, "end 1")], [first, (1, "step  3")],
                     [(0, "machine  1RA---")], [first, (1, "ones"), (2, "step 3")]]:
            with self.subTest(rows=rows):
                with self.assertRaises(BadStore):
                    done_again(written(rows))
        self.assertEqual(lines_of(written([(0, "place"), (1, "what")])), ("place", "what"))


if __name__ == "__main__":
    unittest.main()
