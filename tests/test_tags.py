"""Points 10 and 17: tags, rounds, coded words, and tags told as rounds."""

import itertools
import unittest

from turingwright.errors import BadMachine, BadSize, BadTape, NoEnd
from turingwright.tags import Rounds, Tag, as_rounds, coded, lengths, uncoded

# From a word of so many a to the next: half of an even number, half of three times an odd one and one more.
COLLATZ = Tag(2, {"a": "bc", "b": "a", "c": "aaa"})


def words_of(tag, word, count):
    """Return the words of a tag from the first on."""
    found = [word]
    while len(found) <= count and tag.step(found[-1]) is not None:
        found.append(tag.step(found[-1]))
    return found


class Fields(unittest.TestCase):
    def test_tag(self):
        table = {"b": "", "a": "ab"}
        tag = Tag(3, table)
        self.assertEqual((tag.count, tag.table), (3, {"a": "ab", "b": ""}))
        self.assertIsInstance(tag.table, dict)
        self.assertEqual(tag.shown(), (3, (("a", "ab"), ("b", ""))))
        table["c"] = "a"
        self.assertEqual(tag.table, {"a": "ab", "b": ""})
        self.assertEqual(Tag(1, {}).shown(), (1, ()))

    def test_tag_refused(self):
        for count, table in [(0, {"a": "a"}), (-1, {}), (2, {"": "a"}), (2, {"ab": "a"}), (1, {"a": "a", "bc": ""})]:
            with self.assertRaises(BadMachine):
                Tag(count, table)

    def test_rounds(self):
        rounds = Rounds(["01", "", "1"])
        self.assertEqual(rounds.words, ("01", "", "1"))
        self.assertEqual(rounds.shown(), ("01", "", "1"))
        self.assertIsInstance(rounds.words, tuple)
        self.assertEqual(Rounds(("",)).words, ("",))

    def test_rounds_refused(self):
        for words in [(), [], ("2",), ("01", "0a1"), ("0", " "), ("01", "1", "1x")]:
            with self.assertRaises(BadMachine):
                Rounds(words)


class Tags(unittest.TestCase):
    def test_step(self):
        self.assertEqual(COLLATZ.step("aaa"), "abc")
        self.assertEqual(COLLATZ.step("abc"), "cbc")
        self.assertEqual(COLLATZ.step("bc"), "a")
        self.assertEqual(Tag(3, {"a": ""}).step("abc"), "")
        self.assertEqual(Tag(1, {"a": "ba"}).step("ab"), "bba")

    def test_the_end(self):
        self.assertIsNone(COLLATZ.step("a"))
        self.assertIsNone(COLLATZ.step(""))
        self.assertIsNone(COLLATZ.step("xa"))
        self.assertEqual(COLLATZ.step("ax"), "bc")
        self.assertIsNone(Tag(1, {}).step("aaa"))

    def test_run(self):
        self.assertEqual(COLLATZ.run("aaa", 24), (24, "a"))
        self.assertEqual(COLLATZ.run("a", 0), (0, "a"))
        self.assertEqual(COLLATZ.run("", 5), (0, ""))
        self.assertEqual(COLLATZ.run("aaz", 5), (1, "zbc"))
        self.assertEqual(Tag(1, {"a": ""}).run("aaaa", 9), (4, ""))

    def test_run_refused(self):
        with self.assertRaises(NoEnd):
            COLLATZ.run("aaa", 23)
        with self.assertRaises(NoEnd):
            Tag(1, {"a": "a"}).run("a", 100)
        with self.assertRaises(BadSize):
            COLLATZ.run("aaa", -1)
        with self.assertRaises(BadSize):
            COLLATZ.run("", -1)

    def test_ring(self):
        self.assertEqual(Tag(1, {"a": "a"}).ring("a", 1), (0, 1))
        self.assertEqual(Tag(1, {"a": "b", "b": "a"}).ring("ab", 9), (0, 4))
        self.assertEqual(Tag(1, {"x": "a", "a": "b", "b": "a"}).ring("x", 9), (1, 3))
        self.assertEqual(Tag(1, {"x": "a", "a": "b", "b": "a"}).ring("x", 3), (1, 3))

    def test_no_ring(self):
        self.assertIsNone(Tag(1, {"x": "a", "a": "b", "b": "a"}).ring("x", 2))
        self.assertIsNone(Tag(1, {"a": "a"}).ring("a", 0))
        self.assertIsNone(Tag(1, {"a": "aa"}).ring("a", 50))
        self.assertIsNone(COLLATZ.ring("aaa", 500))
        with self.assertRaises(BadSize):
            COLLATZ.ring("aaa", -1)

    def test_a_ring_is_the_first_word_that_comes_again(self):
        for words in itertools.product(["", "a", "b", "ab", "ba"], repeat=2):
            tag = Tag(2, {"a": words[0] + "b", "b": words[1]})
            for start in ["ab", "aab", "babab", "bbbb"]:
                seen = words_of(tag, start, 30)
                again = [place for place, word in enumerate(seen) if word in seen[:place]]
                found = (seen.index(seen[again[0]]), again[0]) if again else None
                self.assertEqual(tag.ring(start, 30), found)

    def test_lengths(self):
        self.assertEqual(lengths(COLLATZ, "aaa", 5), (3, 3, 3, 4, 5, 5))
        self.assertEqual(lengths(COLLATZ, "aaa", 0), (3,))
        self.assertEqual(lengths(COLLATZ, "bc", 9), (2, 1))
        self.assertEqual(lengths(COLLATZ, "", 9), (0,))
        self.assertEqual(len(lengths(COLLATZ, "aaa", 999)), 25)
        with self.assertRaises(BadSize):
            lengths(COLLATZ, "aaa", -1)
        with self.assertRaises(BadSize):
            lengths(COLLATZ, "", -1)


class RoundsRun(unittest.TestCase):
    def test_step(self):
        rounds = Rounds(("010", "00", "1111"))
        self.assertEqual(rounds.step(0, "11"), (1, "1010"))
        self.assertEqual(rounds.step(1, "10"), (2, "000"))
        self.assertEqual(rounds.step(2, "1"), (0, "1111"))
        self.assertEqual(rounds.step(2, "01"), (0, "1"))
        self.assertEqual(rounds.step(0, "0"), (1, ""))
        self.assertIsNone(rounds.step(1, ""))

    def test_history(self):
        rounds = Rounds(["010", "000", "1111"])
        rows = ((0, "11001"), (1, "1001010"), (2, "001010000"), (0, "01010000"))
        self.assertEqual(rounds.history("11001", 3), rows)
        self.assertEqual(rounds.history("11001", 0), rows[:1])
        self.assertEqual(Rounds(["", "1"]).history("110", 99),
                         ((0, "110"), (1, "10"), (0, "01"), (1, "1"), (0, "1"), (1, "")))
        self.assertEqual(Rounds(["1"]).history("", 5), ((0, ""),))

    def test_run(self):
        self.assertEqual(Rounds(["", "1"]).run("110", 5), (5, 1))
        self.assertEqual(Rounds(["1"]).run("", 0), (0, 0))
        self.assertEqual(Rounds(["1", "0", ""]).run("0000", 4), (4, 1))

    def test_refused(self):
        rounds = Rounds(["1", "0"])
        with self.assertRaises(NoEnd):
            Rounds(["1"]).run("1", 200)
        with self.assertRaises(NoEnd):
            Rounds(["", "1"]).run("110", 4)
        with self.assertRaises(BadSize):
            rounds.run("1", -1)
        with self.assertRaises(BadSize):
            rounds.history("1", -1)
        for word in ("2", "0a", "1a1", "0 1", "a"):
            with self.assertRaises(BadTape):
                rounds.step(0, word)
            with self.assertRaises(BadTape):
                rounds.run(word, 0)
            with self.assertRaises(BadTape):
                rounds.history(word, 1)


class Codes(unittest.TestCase):
    def test_coded(self):
        self.assertEqual(coded("abc", "cab"), "001100010")
        self.assertEqual(coded("abc", ""), "")
        self.assertEqual(coded("a", "aaa"), "111")
        self.assertEqual(coded("", ""), "")

    def test_there_and_back(self):
        for size in range(4):
            for word in itertools.product("abc", repeat=size):
                for signs in ("abc", "cba", "abcd"):
                    code = coded(signs, "".join(word))
                    self.assertEqual(len(code), size * len(signs))
                    self.assertEqual(uncoded(signs, code), "".join(word))

    def test_uncoded(self):
        self.assertEqual(uncoded("abc", "001100010"), "cab")
        self.assertEqual(uncoded("ab", ""), "")

    def test_refused(self):
        for signs, word in [("abc", "d"), ("abc", "abcx"), ("", "a")]:
            with self.assertRaises(BadTape):
                coded(signs, word)
        for signs, word in [("abc", "1"), ("abc", "1000"), ("abc", "000"), ("abc", "110"), ("abc", "100111"), ("", ""),
                            ("", "1"), ("ab", "1x"), ("ab", "x1"), ("abc", "1 0"), ("ab", "10a1")]:
            with self.assertRaises(BadTape):
                uncoded(signs, word)


class AsRounds(unittest.TestCase):
    def test_the_words(self):
        self.assertEqual(as_rounds(COLLATZ, "abc").words, ("010001", "100", "100100100", "", "", ""))
        self.assertEqual(as_rounds(Tag(1, {"a": "aa"}), "a").words, ("11",))
        self.assertEqual(as_rounds(Tag(3, {"a": "ba", "b": ""}), "ba").words, ("", "1001", "", "", "", ""))

    def test_each_step_is_as_many_as_there_are_words(self):
        for tag, signs, word in [(COLLATZ, "abc", "aaa"), (COLLATZ, "cab", "aaaaa"),
                                 (Tag(3, {"a": "bba", "b": "a"}), "ab", "abbabba"),
                                 (Tag(1, {"a": "ba", "b": ""}), "ab", "ab")]:
            rounds = as_rounds(tag, signs)
            size = len(signs) * tag.count
            self.assertEqual(len(rounds.words), size)
            words = words_of(tag, word, 12)
            rows = rounds.history(coded(signs, word), size * 12)
            for place, here in enumerate(words):
                self.assertEqual(rows[size * place], (0, coded(signs, here)))

    def test_refused(self):
        with self.assertRaises(BadMachine):
            as_rounds(COLLATZ, "abcd")
        with self.assertRaises(BadMachine):
            as_rounds(COLLATZ, "")
        with self.assertRaises(BadTape):
            as_rounds(COLLATZ, "ab")
        with self.assertRaises(BadTape):
            as_rounds(Tag(2, {"a": "az"}), "a")
        self.assertEqual(COLLATZ.shown(), (2, (("a", "bc"), ("b", "a"), ("c", "aaa"))))


if __name__ == "__main__":
    unittest.main()
