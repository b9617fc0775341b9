"""[5]: the errors, and what is a name."""

import unittest

from saidanew import errors
from saidanew.errors import SaidError
from saidanew.names import RESERVED, is_name

FIELDS = {
    "NoBook": ("row", "why"),
    "NoText": ("at",),
    "NoTree": ("path",),
    "NoProgram": ("row", "why"),
    "NoLine": (),
    "NoKind": ("path",),
    "NoPlace": ("path",),
    "TooMany": ("most",),
    "AtEnd": (),
    "NoRow": (),
    "NoRun": (),
    "NoChange": (),
}
VALUES = (0, -3, "form", (), (0, 1), None, True, [1, [2]], {"a": 1}, object(), ValueError("x"))


def error_class(name):
    return getattr(errors, name)


class Errors(unittest.TestCase):

    def test_each_stands_straight_under_the_base_class(self):
        self.assertEqual(SaidError.__bases__, (ValueError,))
        for name in FIELDS:
            with self.subTest(name):
                self.assertEqual(error_class(name).__bases__, (SaidError,))

    def test_there_are_no_others(self):
        found = [name for name, thing in vars(errors).items() if isinstance(thing, type)]
        self.assertEqual(sorted(found), sorted([*FIELDS, "SaidError"]))

    def test_none_is_under_another_one(self):
        for name in FIELDS:
            for other in FIELDS:
                with self.subTest(name=name, other=other):
                    under = issubclass(error_class(name), error_class(other))
                    self.assertEqual(under, name == other)

    def test_arguments_by_place_are_kept(self):
        for name, fields in FIELDS.items():
            for value in VALUES:
                given = [value, (value,)][:len(fields)]
                error = error_class(name)(*given)
                for field, one in zip(fields, given):
                    with self.subTest(name=name, value=value, field=field):
                        self.assertIs(getattr(error, field), one)

    def test_arguments_by_name_are_kept(self):
        for name, fields in FIELDS.items():
            for value in VALUES:
                given = dict(zip(fields, [value, (value,)]))
                error = error_class(name)(**given)
                for field in fields:
                    with self.subTest(name=name, value=value, field=field):
                        self.assertIs(getattr(error, field), given[field])

    def test_raised_it_is_caught_by_its_own_and_both_base_classes(self):
        for name, fields in FIELDS.items():
            for caught_by in (error_class(name), SaidError, ValueError):
                error = error_class(name)(*range(len(fields)))
                with self.subTest(name=name, caught_by=caught_by):
                    with self.assertRaises(caught_by) as caught:
                        raise error
                    self.assertIs(caught.exception, error)

    def test_raised_it_is_not_caught_by_another_one(self):
        for name, fields in FIELDS.items():
            for other in FIELDS:
                if other != name:
                    with self.subTest(name=name, other=other):
                        with self.assertRaises(error_class(name)):
                            try:
                                raise error_class(name)(*range(len(fields)))
                            except error_class(other):
                                pass


class Names(unittest.TestCase):

    def test_one_to_eight_small_letters(self):
        for name in ("a", "z", "or", "foo", "abcdefgh", "lists", "words", "doo"):
            with self.subTest(name):
                self.assertTrue(is_name(name))

    def test_others_are_none(self):
        for name in ("", "abcdefghi", "A", "aB", "a1", "1", "a_b", "a b", " a", "a\n", "'a", "!a", "..a",
                     "\xe9", "\u0430", 1, None, True, ("a",), ["a"]):
            with self.subTest(name=name):
                self.assertFalse(is_name(name))

    def test_reserved_words_are_none(self):
        heads = ("int quote flag global made ref name fun call let if do not first rest none cell get raise say "
                 "seq plus minus times less same put set list try use").split()
        reserved = heads + ["true", "false", "word", "rule", "run", "where"]
        self.assertEqual(sorted(RESERVED), sorted(reserved))
        for name in reserved:
            with self.subTest(name):
                self.assertFalse(is_name(name))


if __name__ == "__main__":
    unittest.main()
