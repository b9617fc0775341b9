"""The interface: each name with its arguments, in the file under which it is listed."""

import ast
import inspect
import importlib
import pathlib
import unittest

PACKAGE = pathlib.Path(__file__).resolve().parent.parent / "saidanew"

# Of each module the functions, and the arguments of classes.
NAMES = {
    "errors": {
        "SaidError": None, "NoBook": "(row, why)", "NoText": "(at)", "NoTree": "(path)", "NoProgram": "(row, why)",
        "NoLine": None, "NoKind": "(path)", "NoPlace": "(path)", "TooMany": "(most)", "AtEnd": None, "NoRow": None,
        "NoRun": None, "NoChange": None,
    },
    "trees": {
        "is_tree": "(thing)", "subtree": "(tree, path)", "with_subtree": "(tree, path, other)", "count": "(tree)",
        "inked": "(tree)", "bared": "(tree)",
    },
    "books": {"Book": "(text)"},
    "texts": {"read_tree": "(text, book, functions=())", "show_tree": "(tree, book, functions=())"},
    "reading": {"reading": "(book, tree)", "turned": "(book, tree)", "is_turned": "(tree)"},
    "papers": {"why_hidden": "(book, tree)", "paper_holds": "(book, tree, value)"},
    "programs": {"Program": "(book, text)"},
    "stepper": {"Stepper": "(program, state=None)", "at_work": "(program, state)"},
    "machine": {"Machine": "(program)"},
    "opens": {"open_arguments": "(book, word, n)"},
    "kinds": {
        "kind_of": "(program, tree)", "kind_of_function": "(program, f)", "kind_of_state": "(program, state)",
        "rule_kind": "(book, word, n)",
    },
    "folding": {"folded": "(book, tree)", "folds": "(book, tree)", "fold": "(book, tree, word, n)"},
    "changes": {"clear_ink": "(book, other, ink)", "cleared": "(book, other, tree)", "renamed_tree": "(tree, names)"},
    "desk": {"Desk": "()"},
    "steps": {
        "State": "(term, cells=())", "settled": "(term, cells)", "step": "(program, state)", "outcome": "(state)",
        "line_of": "(program, state)", "state_of": "(program, text)",
    },
}
METHODS = {
    "Book": {
        "rule": "(self, word, n)", "names": "(self, word, n)", "scopes": "(self, word, n)",
        "with_clear": "(self, word, rule, path)", "renamed": "(self, names)", "__len__": "(self)", "__eq__": "(self, other)",
    },
    "Program": {"body": "(self, f)", "__eq__": "(self, other)"},
    "State": {"__eq__": "(self, other)"},
    "Stepper": {
        "line": "(self)", "forth": "(self, many=1)", "back": "(self, many=1)", "next_line": "(self, *, most=5000)",
        "lines": "(self, *, most=5000)", "over": "(self, path, *, most=5000)", "__iter__": "(self)",
    },
    "Desk": {"say": "(self, row)", "trial": "(self)"},
    "Machine": {"line": "(self)", "step": "(self)", "run": "(self, *, most=5000)", "copied": "(self)"},
}
PROPERTIES = {
    "Book": ("text", "words", "functions"), "Program": ("book", "functions", "start"),
    "Stepper": ("number", "state", "said", "is_end"), "Machine": ("number", "state"),
}


class Interface(unittest.TestCase):

    def test_names_and_arguments(self):
        for module, names in NAMES.items():
            loaded = importlib.import_module("saidanew." + module)
            tree = ast.parse((PACKAGE / (module + ".py")).read_text())
            defined = [node.name for node in tree.body if isinstance(node, (ast.FunctionDef, ast.ClassDef))]
            for name, arguments in names.items():
                with self.subTest(module=module, name=name):
                    self.assertIn(name, defined)
                    thing = getattr(loaded, name)
                    self.assertEqual(thing.__module__, "saidanew." + module)
                    if arguments is not None:
                        self.assertEqual(str(inspect.signature(thing)), arguments)

    def test_methods_and_properties_in_the_body_of_their_class(self):
        for module, names in NAMES.items():
            for name in names:
                thing = getattr(importlib.import_module("saidanew." + module), name)
                for method, arguments in METHODS.get(name, {}).items():
                    with self.subTest(name=name, method=method):
                        self.assertEqual(str(inspect.signature(vars(thing)[method])), arguments)
                for one in PROPERTIES.get(name, ()):
                    with self.subTest(name=name, property=one):
                        self.assertIsInstance(vars(thing)[one], property)

    def test_generators(self):
        from saidanew.stepper import Stepper
        from saidanew.trees import inked
        self.assertTrue(inspect.isgeneratorfunction(inked))
        self.assertTrue(inspect.isgeneratorfunction(Stepper.lines))


if __name__ == "__main__":
    unittest.main()
