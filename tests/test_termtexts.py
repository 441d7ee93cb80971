"""Promise 1.3: texts of terms, written and read again."""

import unittest

from oracles import text
from support import A, B, C, EIGHT, SIGNS, broad, chain, chance_draft, chance_term, chances, refusal, short, things
from termyard.errors import NoTerm
from termyard.signs import Signs
from termyard.terms import is_draft, laid
from termyard.termtexts import read_term, term_text

NO_TERM, NO_TEXT = ("NoTerm", {}), ("NoText", {"row": 0})


class TermTextTest(unittest.TestCase):
    def test_gaps_signs_and_parts(self):
        for term, told in (("X", "X"), ("Zed", "Zed"), (A, "a"), (("f", "X"), "f(X)"), (("g", A, ("f", B)), "g(a,f(b))"),
                           (("r", A, ("h", A, B), "X"), "r(a,h(a,b),X)"), (("q", A, "X", A, B), "q(a,X,a,b)")):
            self.assertEqual(term_text(SIGNS, term), told)

    def test_drafts_are_laid(self):
        self.assertEqual(term_text(SIGNS, ("h", B, ("h", "X", A))), "h(X,a,b)")
        self.assertEqual(term_text(signs=SIGNS, term=("p", B, A)), "p(a,b)")

    def test_no_term(self):
        for thing in things():
            with self.subTest(short(thing)):
                self.assertEqual(refusal(term_text, SIGNS, thing), NO_TERM)


class ReadTermTest(unittest.TestCase):
    def test_what_is_written_is_read(self):
        chance = chances(81)
        for _ in range(400):
            term = chance_term(chance, 5, ("X", "Yed"))
            self.assertEqual(read_term(SIGNS, term_text(SIGNS, term)), term)

    def test_parts_in_any_order_and_rows_in_rows(self):
        self.assertEqual(read_term(SIGNS, "p(b,a)"), ("p", A, B))
        self.assertEqual(read_term(SIGNS, "r(a,r(b,r(c,X)))"), ("r", A, B, C, "X"))
        self.assertEqual(read_term(signs=SIGNS, text="h(h(c,X),h(b,a))"), ("h", "X", A, B, C))
        chance = chances(82)
        for _ in range(400):
            draft = chance_draft(chance, 4, ("X", "Y"))
            if is_draft(SIGNS, draft):
                self.assertEqual(read_term(SIGNS, text(draft)), laid(SIGNS, draft))

    def test_no_text_by_form(self):
        for given in ("", " ", "a ", " a", "f( X)", "f(X ,Y)", "g(a, b)", "a()", "f()", "X()", "X(a)", "f(X(a))", "f(a", "a)",
                      "f(a))", "f((a))", "(a)", "()", "(", ")", ",", "a,b", "a,", ",a", "f(a,)", "f(,a)", "g(a,,b)", "f(a)(b)",
                      "f(a)b", "f(a)X", "g(f(a)b)", "g(a b)", "aX", "fX(a)", "a1", "A1", "XY", "Abcde", "abcdefghi",
                      "abcdefghi(a)", "f(abcdefghi)", "f[a]", "f{a}", "f<a>", "a\n", "\na", "f(a)\n", "_", "f;a", "1", "f(1)",
                      "a.b", "f(a.b)", "aB", "'a'", "X'"):
            with self.subTest(given):
                self.assertEqual(refusal(read_term, SIGNS, given), NO_TEXT)

    def test_of_anything_that_is_no_text(self):
        for thing in things():
            if not isinstance(thing, str):
                with self.subTest(short(thing)):
                    self.assertEqual(refusal(read_term, SIGNS, thing), NO_TEXT)
        self.assertEqual(refusal(read_term, SIGNS, b"a"), NO_TEXT)

    def test_unknown_names_the_first_from_the_left(self):
        for given, name in (("zz", "zz"), ("zz(a)", "zz"), ("g(a,zz)", "zz"), ("g(yy(zz),xx)", "yy"), ("yy(f)", "yy"),
                            ("f(zz,yy)", "zz"), ("f(a,b,zz)", "zz"), ("abcdefgh", "abcdefgh")):
            self.assertEqual(refusal(read_term, SIGNS, given), ("NoSign", {"name": name}))
        self.assertEqual(refusal(read_term, Signs([("f", "plain", 1)]), "f(f(a))"), ("NoSign", {"name": "a"}))

    def test_form_comes_ahead_of_names_and_names_ahead_of_terms(self):
        self.assertEqual(refusal(read_term, SIGNS, "zz(a,"), NO_TEXT)
        self.assertEqual(refusal(read_term, SIGNS, "f(a,b,zz())"), NO_TEXT)
        self.assertEqual(refusal(read_term, SIGNS, "f(f,zz)"), ("NoSign", {"name": "zz"}))
        self.assertEqual(refusal(read_term, SIGNS, "(" * 3), NO_TEXT)

    def test_what_is_no_draft(self):
        for given in ("f", "a(a)", "a(X)", "f(a,b)", "g(a)", "p(a)", "p(a,b,c)", "r(a)", "h(X)", "r", "h", "f(g(a))",
                      "r(a,a,a,a,a,a,a,a,a)", "r(r(a,a,a,a,a),r(a,a,a,a))"):
            with self.subTest(given):
                self.assertEqual(refusal(read_term, SIGNS, given), NO_TERM)

    def test_bounds(self):
        for term in (chain(11), broad(80), ("r", *EIGHT)):
            self.assertEqual(read_term(SIGNS, text(term)), term)
        for draft in (chain(12), broad(81), ("r", ("r", *EIGHT[:4]), ("r", *EIGHT[:5]))):
            self.assertEqual(refusal(read_term, SIGNS, text(draft)), NO_TERM)

    def test_very_long_texts(self):
        self.assertEqual(refusal(read_term, SIGNS, "f(" * 2600 + "a" + ")" * 2600), NO_TERM)
        self.assertEqual(refusal(read_term, SIGNS, "f(" * 2600 + "zz" + ")" * 2600), ("NoSign", {"name": "zz"}))
        self.assertEqual(refusal(read_term, SIGNS, "f(" * 2600 + "a" + ")" * 2599), NO_TEXT)
        self.assertEqual(refusal(read_term, SIGNS, "h(" + "a," * 3000 + "a)"), NO_TERM)
        self.assertEqual(refusal(read_term, SIGNS, "(" * 8000), NO_TEXT)
        with self.assertRaises(NoTerm):
            read_term(SIGNS, "r(" + "X," * 3900 + "X)")


if __name__ == "__main__":
    unittest.main()
