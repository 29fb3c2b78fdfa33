"""Point 13: terms, their deeds and texts, functions of letters, and numbers told by terms."""

import itertools
import unittest
import unittest.mock

from turingwright.errors import BadSize, BadTerm, BadText, NoEnd
from turingwright.terms import (DEEDS, all_steps, check_term, done, ended, exchanged, function, letters_of, meets,
                                next_number, number_of, numeral, product_term, put, put_all, read_term, read_terms,
                                size_of, spine, step, sum_term, told_term, without)

BAD = ("", "A", "Z", "ab", "IK", "1", " ", "(", None, 5, (), ("put",), ("put", "I"), ("put", "I", "K", "S"),
       ("get", "I", "K"), ["put", "I", "K"], ("put", "I", ""), ("put", "X", "I"), ("put", "I", ("put", "K", 3)),
       ("put", ["put", "I", "I"], "I"), ("I", "K", "S"))

# Put to itself again and again.
ENDLESS = "SII(SII)"


def behind(text):
    """Return the text of the term behind a deed, None for none."""
    after = step(read_term(text))
    return None if after is None else told_term(after)


def end_of(text, most=100):
    """Return the text of the term that a text's ends in."""
    return told_term(ended(read_term(text), most)[1])


def some_terms(size, letters="ISKx"):
    """Return all terms of so many letters."""
    if size == 1:
        return list(letters)
    return [put(one, other) for first in range(1, size) for one in some_terms(first, letters)
            for other in some_terms(size - first, letters)]


class Parts(unittest.TestCase):
    def test_deeds(self):
        self.assertEqual(DEEDS, {"I": 1, "K": 2, "S": 3})

    def test_check_term(self):
        for term in ["I", "K", "S", "a", "z", put("a", "b"), put(put("S", "K"), put("I", "q"))]:
            self.assertEqual(check_term(term), term)

    def test_check_term_refused(self):
        for term in BAD:
            for one in (term, ("put", term, "I"), ("put", "I", term), ("put", ("put", "I", term), "K")):
                with self.subTest(term=one):
                    for deed in (check_term, lambda one: ended(one, 5), lambda one: meets(one, 2), number_of):
                        with self.assertRaises(BadTerm):
                            deed(one)

    def test_put(self):
        self.assertEqual(put("a", "b"), ("put", "a", "b"))
        self.assertEqual(put_all("a", ("b", "c")), ("put", ("put", "a", "b"), "c"))
        self.assertEqual(put_all("a", ["b"]), ("put", "a", "b"))
        self.assertEqual(put_all("a", ()), "a")

    def test_spine(self):
        self.assertEqual(spine("a"), ("a", ()))
        self.assertEqual(spine(read_term("Sa(bc)d")), ("S", ("a", put("b", "c"), "d")))
        for term in some_terms(4):
            head, rest = spine(term)
            self.assertEqual(put_all(head, rest), term)
            self.assertIsInstance(head, str)

    def test_size_of(self):
        self.assertEqual([size_of(read_term(text)) for text in ("a", "ab", "S(KS)K", "x(y(z(x)))")], [1, 2, 4, 4])

    def test_letters_of(self):
        self.assertEqual(letters_of(read_term("Sz(aKz)(bI)")), ("a", "b", "z"))
        self.assertEqual(letters_of("K"), ())
        self.assertEqual(letters_of("q"), ("q",))


class Deeds(unittest.TestCase):
    def test_done(self):
        self.assertEqual(done("I", ("a",)), "a")
        self.assertEqual(done("K", ("a", "b")), "a")
        self.assertEqual(told_term(done("S", ("a", "b", "c"))), "ac(bc)")
        self.assertEqual(done("I", (put("a", "b"),)), put("a", "b"))

    def test_step(self):
        for one, other in [("Ia", "a"), ("Kab", "a"), ("Sabc", "ac(bc)"), ("Iab", "ab"), ("Kabcd", "acd"),
                           ("Sabcd", "ac(bc)d"), ("I(ab)", "ab"), ("K(ab)(cd)", "ab"),
                           ("S(ab)(cd)(ef)", "ab(ef)(cd(ef))")]:
            self.assertEqual(behind(one), other)

    def test_no_step(self):
        for text in ("a", "I", "K", "S", "Ka", "Sa", "Sab", "abc", "a(Kb)", "S(Ka)(Sb)", "K(Sab)"):
            self.assertIsNone(behind(text))

    def test_outer_ones_first_then_from_the_left(self):
        for one, other in [("I(Ia)", "Ia"), ("K(Ia)(Ib)", "Ia"), ("S(Ia)(Ib)(Ic)", "Ia(Ic)(Ib(Ic))"),
                           ("a(Ib)(Ic)", "ab(Ic)"), ("K(Ia)", "Ka"), ("S(Ia)(Ib)", "Sa(Ib)"),
                           ("a(b(Ic))(Id)", "a(bc)(Id)"),
                           ("a(K(Ib))(Ic)", "a(Kb)(Ic)"), ("Ka(Ib)(Ic)", "a(Ic)")]:
            self.assertEqual(behind(one), other)

    def test_all_steps(self):
        term = read_term("K(Ia)(Ib)")
        self.assertEqual([told_term(one) for one in all_steps(term)], ["Ia", "Ka(Ib)", "K(Ia)b"])
        self.assertEqual([told_term(one) for one in all_steps(read_term("a(Ib)(I(Ic))"))],
                         ["ab(I(Ic))", "a(Ib)(Ic)"])
        self.assertEqual(all_steps("a"), ())
        self.assertIsInstance(all_steps(term), tuple)

    def test_the_first_of_all_steps(self):
        for term in some_terms(5, "SKIa"):
            steps = all_steps(term)
            self.assertEqual(step(term), steps[0] if steps else None)
            self.assertEqual(len({told_term(one) for one in steps}), len(steps))

    def test_ended(self):
        self.assertEqual(ended(read_term("SKKa"), 2), (2, "a"))
        self.assertEqual(ended("a", 0), (0, "a"))
        self.assertEqual(ended(read_term("S(KS)Kabc"), 99), (4, read_term("a(bc)")))
        self.assertEqual(end_of("a(Ib)(Kcd)"), "abc")
        self.assertEqual(end_of("K(Ia)(" + ENDLESS + ")"), "a")

    def test_ended_refused(self):
        for most in (0, 1):
            with self.assertRaises(NoEnd):
                ended(read_term("SKKa"), most)
        with self.assertRaises(NoEnd):
            ended(read_term(ENDLESS), 100)
        for most in (-1, -7):
            with self.assertRaises(BadSize):
                ended("a", most)

    def test_ended_past_so_many_letters(self):
        term = read_term("Sab(cde)")
        self.assertEqual(ended(term, 9, 8), (1, read_term("a(cde)(b(cde))")))
        self.assertEqual(ended(term, 9, largest=8)[0], 1)
        with self.assertRaises(NoEnd):
            ended(term, 9, 7)
        with self.assertRaises(NoEnd):
            ended(read_term("SII(S(SII)(SII))"), 10 ** 9)
        self.assertEqual(ended(read_term("abc"), 9, 1), (0, read_term("abc")))


class Texts(unittest.TestCase):
    def test_told_term(self):
        for text in ("a", "ab", "abc", "a(bc)", "S(KS)K", "a(b(cd)e)(fg)"):
            self.assertEqual(told_term(read_term(text)), text)
        self.assertEqual(told_term(put(put("a", "b"), put("c", "d"))), "ab(cd)")

    def test_told_and_read_again(self):
        for size in range(1, 6):
            for term in some_terms(size):
                self.assertEqual(read_term(told_term(term)), term)

    def test_brackets_that_are_not_needed(self):
        self.assertEqual(read_term("(a)"), "a")
        self.assertEqual(read_term("((ab)(c))"), read_term("abc"))

    def test_read_terms(self):
        self.assertEqual(read_terms("ab)c", 0), (put("a", "b"), 2))
        self.assertEqual(read_terms("xx(ab)c", 3), (put("a", "b"), 5))
        self.assertEqual(read_terms("ab(cd)", 1), (read_term("b(cd)"), 6))

    def test_bad_texts(self):
        for text in ("", "(", ")", "()", "a)", "(a", "a(b", "a()", "ab)c", "((a)", "a(b))", "a(b)c)"):
            with self.subTest(text=text):
                with self.assertRaises(BadText):
                    read_term(text)
        for text, place in [("", 0), ("a", 1), ("a)", 1), ("(a", 0), ("a()", 1)]:
            with self.assertRaises(BadText):
                read_terms(text, place)

    def test_bad_letters(self):
        for text in ("A", "a b", "X", "aB", "a(1)", "SKX(", "[a]", "a\n"):
            with self.subTest(text=text):
                with self.assertRaises(BadTerm):
                    read_term(text)


class Functions(unittest.TestCase):
    def test_without(self):
        for letter, text, found in [("x", "x", "I"), ("x", "y", "Ky"), ("x", "yz", "K(yz)"), ("x", "yx", "y"),
                                    ("x", "y(zx)", "S(Ky)z"), ("x", "xx", "SII"), ("x", "xy", "SI(Ky)"),
                                    ("x", "xyx", "S(SI(Ky))I"), ("x", "y(zx)x", "S(S(Ky)z)I"), ("x", "S", "KS"),
                                    ("y", "x", "Kx"), ("x", "yzx", "yz")]:
            with self.subTest(letter=letter, text=text):
                self.assertEqual(told_term(without(letter, read_term(text))), found)

    def test_put_to_terms_it_does_what_it_says(self):
        for term in some_terms(4, "xyK"):
            made = without("x", term)
            self.assertNotIn("x", letters_of(made))
            self.assertEqual(ended(put(made, "a"), 99)[1], ended(exchanged(term, {"x": "a"}), 99)[1])

    def test_function(self):
        for letters, text in [("xy", "yx"), ("xyz", "xz(yz)"), ("xy", "x"), ("xy", "y(xx)(yK)"), ("abc", "c(ba)a"),
                              ("x", "zxz")]:
            made = function(letters, read_term(text))
            self.assertEqual([letter for letter in letters if letter in letters_of(made)], [])
            put_to = ["p", put("q", "r"), "s"][:len(letters)]
            said = exchanged(read_term(text), dict(zip(letters, put_to)))
            self.assertEqual(ended(put_all(made, put_to), 99)[1], ended(said, 99)[1])
        self.assertEqual(told_term(function("xy", "x")), "K")
        self.assertEqual(told_term(function(("x", "y"), read_term("xy"))), "I")
        self.assertEqual(function("", "x"), "x")

    def test_exchanged(self):
        term = read_term("a(ba)c")
        self.assertEqual(told_term(exchanged(term, {"a": "b", "b": put("a", "c")})), "b(acb)c")
        self.assertEqual(exchanged(term, {}), term)
        self.assertEqual(exchanged("a", {"a": "K"}), "K")
        self.assertEqual(told_term(term), "a(ba)c")


class Numbers(unittest.TestCase):
    def test_numeral(self):
        for count in range(9):
            term = numeral(count)
            self.assertEqual(letters_of(term), ())
            end = "f(" * (count - 1) + "fx" + ")" * (count - 1) if count else "x"
            self.assertEqual(told_term(ended(put_all(term, ("f", "x")), 999)[1]), end)
            self.assertEqual(number_of(term), count)
        self.assertEqual(number_of(numeral(60)), 60)

    def test_number_of_what_is_none(self):
        for text in ("a", "S", "Ka", "SII", "K", "KK", "K(fK)"):
            with self.subTest(text=text):
                with self.assertRaises(BadTerm):
                    number_of(read_term(text))

    def test_number_of_other_terms(self):
        self.assertEqual(number_of("I"), 1)
        self.assertEqual(number_of(read_term("KI")), 0)
        self.assertEqual(number_of(read_term("SK")), 0)

    def test_refused(self):
        for count in (-1, -5):
            with self.assertRaises(BadTerm):
                numeral(count)
        with self.assertRaises(NoEnd):
            number_of(numeral(5), 3)
        with self.assertRaises(NoEnd):
            number_of(numeral(200))
        with self.assertRaises(NoEnd):
            number_of(read_term("K(" + ENDLESS + ")"))
        with self.assertRaises(BadSize):
            number_of(numeral(1), -1)

    def test_next_sum_and_product(self):
        for one in range(8):
            self.assertEqual(number_of(put(next_number(), numeral(one))), one + 1)
            for other in range(8):
                numbers = (numeral(one), numeral(other))
                self.assertEqual(number_of(put_all(sum_term(), numbers)), one + other)
                self.assertEqual(number_of(put_all(product_term(), numbers)), one * other)

    def test_put_together(self):
        seven = put_all(sum_term(), (put_all(product_term(), (numeral(2), numeral(3))), numeral(1)))
        self.assertEqual(number_of(put(next_number(), put_all(product_term(), (seven, numeral(2))))), 15)

    def test_no_letters(self):
        for term in (next_number(), sum_term(), product_term()):
            self.assertEqual(letters_of(check_term(term)), ())


class Meets(unittest.TestCase):
    def test_meets(self):
        for text in ("a", "K(Ia)(Ib)", "S(Ia)(Ib)(Ic)", "K(Ia)(" + ENDLESS + ")", ENDLESS, "a(Ib)(I(Ic))(Kde)"):
            for most in range(5):
                self.assertIs(meets(read_term(text), most), True)

    def test_all_small_terms(self):
        for term in some_terms(4, "SKI"):
            self.assertIs(meets(term, 4), True)

    def test_ways_that_end_apart(self):
        # I, K and S always meet, so here are ways that part: from a in two deeds to d or e, from there on no further.
        ways = {"a": ("b", "c"), "b": ("d",), "c": ("a", "e"), "d": (), "e": (), "f": ("g",), "g": ("a", "g")}
        with unittest.mock.patch("turingwright.terms.all_steps", lambda term: ways[term]):
            self.assertEqual([meets("a", most) for most in range(4)], [True, True, False, False])
            self.assertEqual([meets("f", most) for most in range(6)], [True, True, True, True, False, False])
            self.assertEqual([meets("b", most) for most in range(3)], [True, True, True])

    def test_refused(self):
        for most in (-1, -3):
            with self.assertRaises(BadSize):
                meets("a", most)


class Deep(unittest.TestCase):
    def test_deep_terms(self):
        text = "a(" * 2999 + "ab" + ")" * 2999
        term = read_term(text)
        self.assertEqual(size_of(check_term(term)), 3001)
        self.assertEqual(told_term(term), text)
        self.assertIsNone(step(term))
        made = without("b", term)
        self.assertEqual(size_of(made), 3000 * 3 - 2)
        self.assertEqual(size_of(exchanged(term, {"b": term})), 6001)
        self.assertEqual(letters_of(numeral(2000)), ())
        deep = read_term("a(" * 3000 + "Ib" + ")" * 3000)
        self.assertEqual(told_term(step(deep)), text)


class LikeByHand(unittest.TestCase):
    def test_an_end_is_where_nothing_can_be_done(self):
        for term in itertools.chain(some_terms(4, "SKIa"), some_terms(3)):
            try:
                steps, end = ended(term, 30)
            except NoEnd:
                continue
            self.assertIsNone(step(end))
            here = term
            for _ in range(steps):
                here = step(here)
            self.assertEqual(here, end)


if __name__ == "__main__":
    unittest.main()
