"""Point 14: pairs of words, what stands over, rows that read alike, and papers that none does."""

import itertools
import unittest

from turingwright.errors import BadMachine, BadPaper, BadSize
from turingwright.posts import (all_rows, by_counts, check_laid, check_none, check_pairs, is_least, none_paper, over,
                                plain, reads, shortest, times_in, turned_pairs)

# Laid as 2, 1, 2, 0 both rows read bbaabbbaa.
KNOWN = (("a", "baa"), ("ab", "aa"), ("bba", "bb"))
NEVER = (("ab", "a"), ("ba", "ab"))
BAD = ((), [], (("", ""),), (("a", "b"), ("", "")), [["", ""]])
WORDS = ("", "a", "b", "ab", "ba", "bb")


def some_pairs():
    """Return rows of two pairs of short words."""
    pairs = [pair for pair in itertools.product(WORDS, repeat=2) if pair != ("", "")]
    return [(one, other) for one in pairs[::2] for other in pairs[::3]]


def tried(pairs, count):
    """Return all rows that read alike, by trying all."""
    rows = [row for size in range(1, count + 1) for row in itertools.product(range(len(pairs)), repeat=size)]
    return tuple([row for row in rows if "".join([pairs[place][0] for place in row])
                  == "".join([pairs[place][1] for place in row])])


class Checked(unittest.TestCase):
    def test_check_pairs(self):
        self.assertEqual(check_pairs([["a", "b"], ("", "a")]), (("a", "b"), ("", "a")))
        self.assertIsInstance(check_pairs([["a", ""]])[0], tuple)

    def test_bad_pairs(self):
        deeds = [check_pairs, turned_pairs, by_counts, lambda pairs: shortest(pairs, 99, 9),
                 lambda pairs: none_paper(pairs, 99), lambda pairs: check_none(pairs, ()),
                 lambda pairs: all_rows(pairs, 3)]
        for pairs, deed in itertools.product(BAD, deeds):
            with self.assertRaises(BadMachine):
                deed(pairs)

    def test_check_laid(self):
        self.assertEqual(check_laid(KNOWN, (2, 1, 2, 0)), "bbaabbbaa")
        self.assertEqual(check_laid([["a", "a"]], [0, 0, 0]), "aaa")

    def test_check_laid_refused(self):
        for row in [(), [], (0,), (2, 1, 2), (2, 1, 2, 0, 1), (3,), (-1,), (2, 1, 2, -3), (2, 1, 2, 0, 9)]:
            with self.subTest(row=row):
                with self.assertRaises(BadPaper):
                    check_laid(KNOWN, row)
                with self.assertRaises(BadPaper):
                    is_least(KNOWN, row)
                self.assertIs(reads(KNOWN, row), False)
        for row in [(-1,), (0, -1), (1,)]:
            with self.assertRaises(BadPaper):
                check_laid([("a", "a")], row)

    def test_reads(self):
        self.assertIs(reads(KNOWN, (2, 1, 2, 0)), True)
        self.assertIs(reads(KNOWN, (0, 1)), False)

    def test_is_least(self):
        self.assertIs(is_least(KNOWN, (2, 1, 2, 0)), True)
        self.assertIs(is_least(KNOWN, (2, 1, 2, 0, 2, 1, 2, 0)), False)
        self.assertIs(is_least([("a", "a")], (0,)), True)
        self.assertIs(is_least([("a", "a")], [0, 0]), False)

    def test_turned_pairs(self):
        self.assertEqual(turned_pairs([["ab", "b"], ("", "bba")]), (("ba", "b"), ("", "abb")))
        self.assertEqual(turned_pairs(turned_pairs(KNOWN)), KNOWN)
        self.assertEqual(check_laid(turned_pairs(KNOWN), (0, 2, 1, 2)), "bbaabbbaa"[::-1])


class Over(unittest.TestCase):
    def test_over(self):
        for state, pair, after in [((0, ""), ("ab", "a"), (0, "b")), ((0, ""), ("a", "ab"), (1, "b")),
                                   ((0, ""), ("a", "a"), (0, "")), ((0, ""), ("a", "b"), None),
                                   ((0, "b"), ("a", "b"), (0, "a")), ((0, "b"), ("a", "ba"), (0, "")),
                                   ((0, "b"), ("", "bab"), (1, "ab")), ((0, "b"), ("a", "a"), None),
                                   ((1, "b"), ("b", "a"), (1, "a")), ((1, "b"), ("ba", "a"), (0, "")),
                                   ((1, "b"), ("bab", "a"), (0, "b")), ((1, "b"), ("a", ""), None),
                                   ((0, "ab"), ("", ""), (0, "ab")), ((1, "ab"), ("", "c"), (1, "abc"))]:
            with self.subTest(state=state, pair=pair):
                self.assertEqual(over(state, pair), after)

    def test_what_stands_over_is_the_end_of_the_longer_row(self):
        for one, other, first, second in itertools.product(WORDS, WORDS, WORDS, WORDS):
            state = over((0, ""), (one, other))
            if state is None:
                continue
            after = over(state, (first, second))
            rows = (one + first, other + second)
            side = 0 if len(rows[0]) >= len(rows[1]) else 1
            longer, shorter = rows[side], rows[1 - side]
            self.assertEqual(after, (side, longer[len(shorter):]) if longer.startswith(shorter) else None)

    def test_plain(self):
        self.assertEqual(plain((1, "")), (0, ""))
        self.assertEqual(plain((0, "")), (0, ""))
        self.assertEqual(plain([1, "a"]), (1, "a"))
        self.assertEqual(plain((0, "b")), (0, "b"))


class Rows(unittest.TestCase):
    def test_shortest(self):
        self.assertEqual(shortest(KNOWN, 999, 20), (2, 1, 2, 0))
        self.assertEqual(shortest([["b", "b"], ["a", "a"]], 99, 9), (0,))
        self.assertIsNone(shortest([("a", "b")], 99, 9))
        self.assertIsNone(shortest(NEVER, 99, 9))

    def test_the_shortest_of_all_first_in_order(self):
        for pairs in some_pairs():
            rows = tried(pairs, 5)
            if rows:
                self.assertEqual(shortest(pairs, 9999, 99), rows[0])
            else:
                found = shortest(pairs, 9999, 8)
                self.assertTrue(found is None or len(found) > 5)

    def test_none_longer_than_told(self):
        pairs = [("aab", "a"), ("b", "abb"), ("a", "abb")]
        self.assertEqual(shortest([("aaa", "a"), ("", "aa")], 99, 2), (0, 1))
        self.assertIsNone(shortest([("aaa", "a"), ("", "aa")], 99, 1))
        self.assertEqual(shortest(pairs, 999, 9), min(tried(pairs, 6), key=lambda row: (len(row), row), default=None))

    def test_past_a_count(self):
        with self.assertRaises(BadSize):
            shortest([("aa", "a")], 5, 99)
        self.assertIsNone(shortest([("aa", "a")], 99, 50))
        with self.assertRaises(BadSize):
            shortest(KNOWN, 1, 20)
        # The bare one and four more.
        self.assertIsNone(shortest([("aa", "a")], 5, 4))
        with self.assertRaises(BadSize):
            shortest([("aa", "a")], 4, 4)

    def test_all_rows(self):
        for pairs in some_pairs() + [KNOWN]:
            self.assertEqual(all_rows(pairs, 4), tried(pairs, 4))
        self.assertEqual(all_rows(KNOWN, 8), ((2, 1, 2, 0), (2, 1, 2, 0, 2, 1, 2, 0)))
        self.assertEqual(all_rows(KNOWN, 3), ())
        self.assertEqual(all_rows([("a", "a")], 0), ())
        self.assertEqual(all_rows([["a", "a"]], 2), ((0,), (0, 0)))

    def test_all_rows_refused(self):
        for count in (-1, 9, 50):
            with self.assertRaises(BadSize):
                all_rows(KNOWN, count)


class NonePapers(unittest.TestCase):
    def test_none_paper(self):
        self.assertEqual(none_paper([("a", "b")], 0), ())
        self.assertEqual(none_paper([["ab", "a"], ["ca", "b"]], 9), ((0, "b"), (0, "ca")))
        self.assertEqual(none_paper([("a", "ab"), ("bc", "d")], 9), ((1, "b"),))
        self.assertIsNone(none_paper(KNOWN, 999))
        self.assertIsNone(none_paper([("a", "a")], 99))
        self.assertIsNone(none_paper([("aa", "a")], 50))

    def test_as_many_as_told(self):
        paper = none_paper(NEVER, 99)
        self.assertEqual(paper, tuple(sorted(paper)))
        self.assertEqual(none_paper(NEVER, len(paper)), paper)
        self.assertIsNone(none_paper(NEVER, len(paper) - 1))

    def test_papers_hold(self):
        held = 0
        for pairs in some_pairs():
            paper = none_paper(pairs, 30)
            if paper is not None:
                held += 1
                self.assertEqual(check_none(pairs, paper), len(paper))
                self.assertEqual(check_none(pairs, [list(state) for state in paper]), len(paper))
                self.assertEqual(all_rows(pairs, 6), ())
                self.assertTrue(all(word != "" for side, word in paper))
                for state in paper:
                    with self.assertRaises(BadPaper):
                        check_none(pairs, [one for one in paper if one != state])
        self.assertGreater(held, 20)

    def test_more_than_is_needed_holds_too(self):
        self.assertEqual(check_none([("ab", "aa")], ()), 0)
        self.assertEqual(check_none([("ab", "aa")], ((1, "b"),)), 1)

    def test_papers_refused(self):
        for pairs, paper in [(KNOWN, ()), (KNOWN, ((0, "a"),)), ([("a", "a")], ()), ([("a", "a")], ((0, ""),)),
                             ([("aa", "a")], ((0, "a"),)), (NEVER, ()), ([("ab", "aa")], ((1, "ab"),)),
                             ([("aa", "a"), ("", "a")], tuple([(0, "a" * size) for size in range(1, 9)]))]:
            with self.subTest(pairs=pairs, paper=paper):
                with self.assertRaises(BadPaper):
                    check_none(pairs, paper)

    def test_by_counts(self):
        for pairs, told in [([("aa", "a"), ("ab", "b")], True), ([("a", "aa"), ("", "b")], True),
                            ([("aa", "a"), ("a", "aa")], False), ([("aab", "ba"), ("ba", "bb")], True),
                            ([("ab", "ba")], False), ([("abb", "a"), ("b", "aab")], False),
                            ([("ab", "cc"), ("b", "a")], True), (KNOWN, False), ([("a", "a")], False)]:
            with self.subTest(pairs=pairs):
                self.assertIs(by_counts(pairs), told)

    def test_by_counts_shows_that_there_is_none(self):
        for pairs in some_pairs():
            if by_counts(pairs):
                self.assertEqual(tried(pairs, 4), ())

    def test_times_in(self):
        self.assertEqual([times_in("abca", sign) for sign in ("a", "b", "x", "")], [2, 1, 0, 4])
        self.assertEqual(times_in("", ""), 0)


if __name__ == "__main__":
    unittest.main()
