"""[12]: tokens, and how they are joined to a text again."""

import unittest

from saidanew.tokens import is_cell, is_number, is_quote, number_of, spaced, token_of, token_rows, tokens_of


class Tokens(unittest.TestCase):

    def test_tokens(self):
        for text, tokens in (
            ("", []),
            (" \n ", []),
            ("a", ["a"]),
            ("(do a)", ["(", "do", "a", ")"]),
            ("a(b)c[d]e", ["a", "(", "b", ")", "c", "[", "d", "]", "e"]),
            ("[]()", ["[", "]", "(", ")"]),
            ("a\nb  c\n\n d", ["a", "b", "c", "d"]),
            ("*(a) ..r !x 'q #1 a=>b", ["*", "(", "a", ")", "..r", "!x", "'q", "#1", "a=>b"]),
        ):
            with self.subTest(text):
                self.assertEqual(tokens_of(text), tokens)

    def test_single_spaces(self):
        for text in ("", "a", "(do a)", "a (b) c [d] e", "[] ()", "(a *(b *[]) [c])", "fun f () => (list)"):
            with self.subTest(text):
                self.assertEqual(spaced(tokens_of(text)), text)
                self.assertEqual(spaced(tokens_of(" " + text.replace(" ", " \n "))), text)

    def test_integers(self):
        for token in ("0", "1", "-1", "9", "10", "-10", "1203", "9" * 5000):
            with self.subTest(token):
                self.assertTrue(is_number(token))
        for token in ("", "-", "-0", "00", "01", "-01", "--1", "+1", "1-", "1.0", "1a", "a", "\u0661", "\xb2", "1 "):
            with self.subTest(token):
                self.assertFalse(is_number(token))

    def test_cells_and_quotes(self):
        for token in ("#1", "#9", "#10", "#120", "#" + "9" * 5000):
            self.assertTrue(is_cell(token))
        for token in ("", "#", "1", "#0", "#01", "#-1", "##1", "#a", "#1a", "# 1", "1#"):
            self.assertFalse(is_cell(token))
        for token in ("'a", "'abcdefgh", "'or"):
            self.assertTrue(is_quote(token))
        for token in ("", "'", "a", "''a", "'let", "'where", "'A", "'a1", "'abcdefghi", "a'"):
            self.assertFalse(is_quote(token))

    def test_integers_of_any_length(self):
        for digits in ("0", "7", "10", "1" * 63, "1" * 64, "1" * 65, "1" + "0" * 64, "9" * 128, "1" + "0" * 128, "1" + "0" * 127):
            self.assertEqual(number_of(digits), int(digits))
            self.assertEqual(token_of(int(digits)), digits)
            if digits != "0":
                self.assertEqual(number_of("-" + digits), -int(digits))
                self.assertEqual(token_of(-int(digits)), "-" + digits)

    def test_rows(self):
        self.assertEqual(token_rows(""), [])
        self.assertEqual(token_rows(" \n\n  "), [])
        self.assertEqual(token_rows("\na (b)\n \n  c*[\n"), [["a", "(", "b", ")"], ["c*", "["]])


if __name__ == "__main__":
    unittest.main()
