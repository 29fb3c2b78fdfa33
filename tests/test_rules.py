"""Points 11 and 1: rules, ways between words, and machines told by rules."""

import itertools
import unittest

from turingwright.errors import BadMachine, BadPaper, BadSize, BadTape, NoEnd
from turingwright.machines import HALT, Machine, read_machine
from turingwright.rules import (all_after, bare_word, by_first, check_rules, check_way, first_after, kept_count, letter,
                                of_machine, reached, same_word, shortens, turned_rules, way_between, word_of)
from turingwright.tapes import Tape, read_tape

SORT = (("ba", "ab"),)
BARE = ((("", "a"),), (("a", "b"), ("", "")), [["a", "b"], ["", "c"]])
MACHINES = ("1RB1LB 1LA1RZ", "1RB1RZ 1LB0RC 1LC1LA", "1RB0LB 0LA0RA", "0RA1LA", "1LB2RA1RZ 2LA2RB---", "1RZ---",
            "------")


class Checked(unittest.TestCase):
    def test_check_rules(self):
        self.assertEqual(check_rules([["a", "b"], ("b", "")]), (("a", "b"), ("b", "")))
        self.assertEqual(check_rules(()), ())
        self.assertIsInstance(check_rules([]), tuple)

    def test_a_bare_first_part(self):
        deeds = [check_rules, turned_rules, shortens, lambda rules: all_after(rules, "ab"),
                 lambda rules: first_after(rules, "ab"), lambda rules: by_first(rules, "ab", 5),
                 lambda rules: reached(rules, "ab", 99, 9), lambda rules: way_between(rules, "ab", "b", 99, 9),
                 lambda rules: kept_count(rules, "a")]
        for rules, deed in itertools.product(BARE, deeds):
            with self.assertRaises(BadMachine):
                deed(rules)


class Ways(unittest.TestCase):
    def test_rule_by_rule_from_the_left(self):
        self.assertEqual(all_after([("a", "x"), ("ab", "")], "abab"),
                         ((0, 0, "xbab"), (0, 2, "abxb"), (1, 0, "ab"), (1, 2, "ab")))
        self.assertEqual(all_after([("ab", ""), ("a", "x")], "ba"), ((1, 1, "bx"),))
        self.assertEqual(all_after(SORT, "aab"), ())
        self.assertEqual(all_after((), "ab"), ())
        self.assertEqual(all_after(SORT, ""), ())

    def test_parts_that_overlap(self):
        self.assertEqual(all_after([("aa", "b")], "aaaa"), ((0, 0, "baa"), (0, 1, "aba"), (0, 2, "aab")))
        self.assertEqual(all_after([("aba", "c")], "ababa"), ((0, 0, "cba"), (0, 2, "abc")))

    def test_first_after(self):
        self.assertEqual(first_after([("b", "x"), ("a", "y")], "aabb"), (0, 2, "aaxb"))
        self.assertIsNone(first_after(SORT, "ab"))
        self.assertIsNone(first_after((), "ab"))

    def test_the_first_of_all(self):
        parts = ["a", "b", "ab", "bb"]
        for rules in itertools.product(itertools.product(parts, ["", "a", "ba"]), repeat=2):
            for word in ["", "a", "ab", "babb", "bbbab"]:
                ways = all_after(rules, word)
                self.assertEqual(first_after(rules, word), ways[0] if ways else None)
                tried = []
                for number, (one, other) in enumerate(rules):
                    for place in range(len(word)):
                        if word[place:].startswith(one):
                            tried.append((number, place, word[:place] + word[place:].replace(one, other, 1)))
                self.assertEqual(ways, tuple(tried))

    def test_by_first(self):
        self.assertEqual(by_first(SORT, "bbaa", 4), (4, "aabb"))
        self.assertEqual(by_first(SORT, "ab", 0), (0, "ab"))
        self.assertEqual(by_first([["1+1", "11"], ["+", ""]], "11+111", 9), (1, "11111"))
        self.assertEqual(by_first([("b", "c"), ("a", "b")], "ab", 9), (3, "cc"))

    def test_by_first_refused(self):
        with self.assertRaises(NoEnd):
            by_first(SORT, "bbaa", 3)
        with self.assertRaises(NoEnd):
            by_first([("a", "a")], "a", 50)
        with self.assertRaises(BadSize):
            by_first(SORT, "ba", -1)
        with self.assertRaises(BadSize):
            by_first(SORT, "", -1)


class Reached(unittest.TestCase):
    def test_nearest_first(self):
        found = reached([("a", "b"), ("b", "aa")], "a", 99, 3)
        self.assertEqual(list(found)[:4], ["a", "b", "aa", "ba"])
        self.assertEqual(found["a"], None)
        self.assertEqual(found["b"], (0, 0, "a"))
        self.assertEqual(found["aa"], (1, 0, "b"))
        self.assertEqual(found["ab"], (0, 1, "aa"))
        self.assertTrue(all(len(word) <= 3 for word in found))
        self.assertEqual(len(found), 14)

    def test_none_longer(self):
        self.assertEqual(reached([("a", "aa")], "a", 99, 4), {"a": None, "aa": (0, 0, "a"), "aaa": (0, 0, "aa"),
                                                              "aaaa": (0, 0, "aaa")})
        self.assertEqual(reached([("a", "aa")], "a", 99, 1), {"a": None})
        self.assertEqual(reached(SORT, "ab", 99, 9), {"ab": None})

    def test_past_a_count(self):
        self.assertEqual(len(reached([("a", "aa")], "a", 4, 4)), 4)
        with self.assertRaises(BadSize):
            reached([("a", "aa")], "a", 3, 4)
        self.assertEqual(reached(SORT, "ab", 1, 9), {"ab": None})
        for word in ("a", "b"):
            with self.assertRaises(BadSize):
                reached([("a", "aa")], word, 0, 4)
        with self.assertRaises(BadSize):
            way_between([("a", "aa")], "a", "aa", 3, 4)

    def test_way_between(self):
        self.assertEqual(way_between(SORT, "bba", "abb", 99, 9), ((0, 1), (0, 0)))
        self.assertEqual(way_between(SORT, "ab", "ab", 99, 9), ())
        self.assertIsNone(way_between(SORT, "ab", "ba", 99, 9))
        self.assertIsNone(way_between([("a", "aa")], "a", "aaa", 99, 2))

    def test_the_fewest_steps(self):
        rules = [("a", "b"), ("b", "c"), ("a", "cc"), ("cc", "c"), ("c", "ab")]
        near = {"a": 0}
        waiting = ["a"]
        for word in waiting:
            for _, _, after in all_after(rules, word):
                if after not in near and len(after) <= 3:
                    near[after] = near[word] + 1
                    waiting.append(after)
        self.assertEqual(list(reached(rules, "a", 999, 3)), waiting)
        for word in near:
            way = way_between(rules, "a", word, 999, 3)
            self.assertEqual(len(way), near[word])
            self.assertEqual(check_way(rules, "a", way), word)

    def test_check_way(self):
        self.assertEqual(check_way(SORT, "bba", [(0, 1), [0, 0]]), "abb")
        self.assertEqual(check_way(SORT, "bba", ()), "bba")

    def test_check_way_refused(self):
        for steps in [((0, 0),), ((1, 1),), ((-1, 1),), ((0, -2),), ((0, 1), (0, 1)), ((0, 9),), ((0, 2),)]:
            with self.subTest(steps=steps):
                with self.assertRaises(BadPaper):
                    check_way(SORT, "bba", steps)
        with self.assertRaises(BadPaper):
            check_way([("", "a")], "bba", ((0, 0),))
        with self.assertRaises(BadPaper):
            check_way((), "bba", ((0, 0),))


class Told(unittest.TestCase):
    def test_turned_rules(self):
        self.assertEqual(turned_rules([["a", "bc"], ("b", "a")]), (("bc", "a"), ("a", "b")))
        with self.assertRaises(BadMachine):
            turned_rules([("a", "b"), ("b", "")])
        rules = (("ab", "ba"), ("b", "cc"))
        self.assertEqual(turned_rules(turned_rules(rules)), rules)
        for word in reached(rules, "abab", 999, 9):
            self.assertIsNotNone(way_between(turned_rules(rules), word, "abab", 999, 9))

    def test_kept_count(self):
        self.assertIs(kept_count(SORT, "a"), True)
        self.assertIs(kept_count([("ab", "ba"), ("a", "ac")], "ab"), True)
        self.assertIs(kept_count([("ab", "ba"), ("a", "ac")], "c"), False)
        self.assertIs(kept_count([("a", "b")], "ab"), True)
        self.assertIs(kept_count([("a", "b")], "a"), False)
        self.assertIs(kept_count([("a", "b"), ("b", "bb")], "ab"), False)
        self.assertIs(kept_count((), "a"), True)
        self.assertIs(kept_count([("a", "")], ""), True)

    def test_shortens(self):
        self.assertIs(shortens([("ab", "c"), ("a", "")]), True)
        self.assertIs(shortens([("ab", "c"), ("a", "b")]), False)
        self.assertIs(shortens([("a", "bb")]), False)
        self.assertIs(shortens(()), True)


class OfMachine(unittest.TestCase):
    def test_the_rules(self):
        self.assertEqual(of_machine(read_machine("1RA---")), (("A00", "1A0"), ("A01", "1A1"), ("A0]", "1A0]")))
        self.assertEqual(of_machine(read_machine("---0LZ")), (("0A1", "Z00"), ("1A1", "Z10"), ("[A1", "[Z00")))
        self.assertEqual(of_machine(read_machine("------")), ())

    def test_a_rule_for_each_sign_and_one_at_the_end(self):
        for text in MACHINES:
            machine = read_machine(text)
            self.assertEqual(len(of_machine(machine)), len(machine.table) * (machine.signs + 1))
        wide = Machine(20, 9, {(19, 8): (7, 1, 0), (0, 3): (2, -1, HALT)})
        self.assertEqual(of_machine(wide)[0], ("0A3", "Z02"))
        self.assertEqual(of_machine(wide)[-1], ("T8]", "7A0]"))

    def test_each_step_by_one(self):
        for text in MACHINES:
            machine = read_machine(text)
            rules = of_machine(machine)
            for start in ("[0]", "1[1]0011", "0100[1]01", "11[0]", "1[0]1"):
                word = word_of(0, read_tape(start))
                for state, tape in machine.history(read_tape(start), 40):
                    self.assertTrue(same_word(word, word_of(state, tape)))
                    ways = all_after(rules, word)
                    self.assertEqual(len(ways), 0 if machine.step(state, tape) is None else 1)
                    if ways:
                        word = ways[0][2]

    def test_the_same_end(self):
        machine = read_machine("1RB1RZ 1LB0RC 1LC1LA")
        steps, state, tape = machine.run(Tape(), 99)
        told, word = by_first(of_machine(machine), word_of(0, Tape()), 99)
        self.assertEqual(told, steps)
        self.assertEqual(bare_word(word), word_of(state, tape))
        with self.assertRaises(NoEnd):
            by_first(of_machine(machine), "[A0]", steps - 1)

    def test_refused(self):
        for machine in [read_machine("1NB1LB 1LA1RZ"), read_machine("------ ---0NZ"), Machine(1, 10, {}),
                        Machine(21, 2, {}), Machine(21, 10, {(0, 0): (0, 0, 0)})]:
            with self.assertRaises(BadMachine):
                of_machine(machine)
        self.assertEqual(of_machine(Machine(20, 9, {})), ())


class Words(unittest.TestCase):
    def test_letter(self):
        self.assertEqual([letter(state) for state in (0, 1, 19, HALT)], ["A", "B", "T", "Z"])

    def test_word_of(self):
        self.assertEqual(word_of(0, Tape()), "[A0]")
        self.assertEqual(word_of(1, Tape((1, 2), 3, (4, 5))), "[21B345]")
        self.assertEqual(word_of(HALT, Tape((9,), 0, (0, 9))), "[9Z009]")
        for tape in [Tape((10,)), Tape((), 10), Tape((), 0, (1, 11))]:
            with self.assertRaises(BadTape):
                word_of(0, tape)

    def test_bare_word(self):
        self.assertEqual(bare_word("[A0]"), "[A0]")
        self.assertEqual(bare_word("[00A000]"), "[A0]")
        self.assertEqual(bare_word("[010B0100]"), "[10B01]")
        self.assertEqual(bare_word("[10Z00]"), "[10Z0]")

    def test_same_word(self):
        self.assertIs(same_word("[00A10]", "[A1]"), True)
        self.assertIs(same_word("[A0]", "[A00]"), True)
        self.assertIs(same_word("[0A0]", "[A1]"), False)
        self.assertIs(same_word("[A0]", "[B0]"), False)
        self.assertIs(same_word("[1A0]", "[10A0]"), False)
        self.assertIs(same_word("[A01]", "[A0]"), False)

    def test_refused(self):
        for word in ("", "[", "]", "[]", "A0", "[A0", "A0]", "[A]", "[1A]", "[10]", "[AB0]", "[A0B0]", "[0]", "(A0)",
                     "[a0]", "[x0A0]", "[A x]", "[Ax]", "[A0x]", "[[A0]", "[A0]]"):
            with self.subTest(word=word):
                with self.assertRaises(BadTape):
                    bare_word(word)
                with self.assertRaises(BadTape):
                    same_word(word, "[A0]")
                with self.assertRaises(BadTape):
                    same_word("[A0]", word)


if __name__ == "__main__":
    unittest.main()
