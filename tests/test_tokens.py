"""[12]: tokens, and how they are joined to a text again."""

import unittest

from saidanew.tokens import is_number, spaced, tokens_of


class Tokens(unittest.TestCase):

    def test_tokens(self):
        for text, tokens in (
            ("", []),
            (" \n ", []),
            ("a", ["a"]),
            ("(do a)", ["(", "do", "a", ")"]),
            ("a(b)c[d]e", ["a", "(", "b", ")", "c", "[", "d", "]", "e"]),
            ("[]()", ["[", "]", "(", ")"]),
            ("a\nb  c\n\n d", ["a", "b", "c", "d"]),
            ("*(a) ..r !x 'q #1 a=>b", ["*", "(", "a", ")", "..r", "!x", "'q", "#1", "a=>b"]),
        ):
            with self.subTest(text):
                self.assertEqual(tokens_of(text), tokens)

    def test_single_spaces(self):
        for text in ("", "a", "(do a)", "a (b) c [d] e", "[] ()", "(a *(b *[]) [c])", "fun f () => (list)"):
            with self.subTest(text):
                self.assertEqual(spaced(tokens_of(text)), text)
                self.assertEqual(spaced(tokens_of(" " + text.replace(" ", " \n "))), text)

    def test_integers(self):
        for token in ("0", "1", "-1", "9", "10", "-10", "1203", "9" * 5000):
            with self.subTest(token):
                self.assertTrue(is_number(token))
        for token in ("", "-", "-0", "00", "01", "-01", "--1", "+1", "1-", "1.0", "1a", "a", "\u0661", "\xb2", "1 "):
            with self.subTest(token):
                self.assertFalse(is_number(token))


if __name__ == "__main__":
    unittest.main()
