"""The examples of the document, word by word."""

import doctest
import unittest

EXAMPLES = r"""
From section 1:

    >>> from saidanew.books import Book
    >>> from saidanew.programs import Program
    >>> book = Book('word or\nrule a => (do a)\nrule a ..r => (let t a (if t t *(or ..r)))')
    >>> program = Program(book, 'run (or (less 2 1) (none []) true)')
    >>> from saidanew.stepper import Stepper
    >>> list(Stepper(program).lines())
    [(0, '(or (less 2 1) (none []) true)'), (1, '(or false (none []) true)'), (3, '(or (none []) true)'), (4, '(or true true)'), (6, 'true')]

From section 5:

    >>> from saidanew.texts import read_tree, show_tree
    >>> loop = Book('word for\nrule !x a b => (call (fun (x) b) a)')
    >>> tree = read_tree('(for y 3 (plus y 1))', loop)
    >>> tree
    ('use', (), ('for', 3, ('int', (), (3,)), ('plus', (), (('name', (), (0,)), ('int', (), (1,))))))
    >>> show_tree(tree, loop)
    '(for a 3 (plus a 1))'

From section 6:

    >>> from saidanew.reading import reading, turned
    >>> t = reading(loop, tree)
    >>> (t[:2], t[2][0][:2], t[2][1])
    (('call', (('for', 0, ()),)), ('fun', (('for', 0, (0,)),)), ('int', (), (3,)))
    >>> turned(loop, t) == tree
    True

From section 8:

    >>> from saidanew.steps import line_of, state_of, step
    >>> s = step(program, program.start)[0]
    >>> s = step(program, s)[0]
    >>> (line_of(program, s), s.term[1], s.term[0])
    (None, (('or', 1, (1,)),), 'if')

From section 7, of this state:

    >>> from saidanew.papers import why_hidden
    >>> why_hidden(book, s.term)
    ('lost', ())

From section 11:

    >>> from saidanew.opens import open_arguments
    >>> open_arguments(book, 'or', 3)
    (0,)

From section 12:

    >>> from saidanew.kinds import kind_of, rule_kind
    >>> rule_kind(loop, 'for', 3)
    (((('a', ()),), (('b', ('a',)),)), 'b')
    >>> kind_of(program, read_tree("(fun (x) (or x (same x true)))", book))
    'fun (flag) flag'

From section 13:

    >>> from saidanew.folding import folded
    >>> from saidanew.trees import bared
    >>> folded(loop, bared(reading(loop, tree))) == tree
    True

From section 15:

    >>> from saidanew.desk import Desk
    >>> desk = Desk()
    >>> row = 'word or ; rule a => (do a) ; rule a ..r => (let t a (if t t *(or ..r)))'
    >>> (desk.say(row), desk.say('run (or false true)'), desk.say('next'), desk.say('at'))
    ('kept', '(or false true)', '(or true)', '2')

The table of section 6, its last column read to trees:

    >>> empty = Book('')
    >>> for text in ("12", "-3", "'red", "true", "false", "f", "[1 2]", "#1", "(fun (x y) 1)", "(call 1)", "(let x 1 x)",
    ...              "(if 1 2 3)", "(do 1)", "(seq 1 2)", "(list 1)", "(try 1 x x)"):
    ...     print(text, read_tree(text, empty, ('f',)))
    12 ('int', (), (12,))
    -3 ('int', (), (-3,))
    'red ('quote', (), ('red',))
    true ('flag', (), (True,))
    false ('flag', (), (False,))
    f ('global', (), ('f',))
    [1 2] ('made', (), (('int', (), (1,)), ('int', (), (2,))))
    #1 ('ref', (), (1,))
    (fun (x y) 1) ('fun', (), (2, ('int', (), (1,))))
    (call 1) ('call', (), (('int', (), (1,)),))
    (let x 1 x) ('let', (), (('int', (), (1,)), ('name', (), (0,))))
    (if 1 2 3) ('if', (), (('int', (), (1,)), ('int', (), (2,)), ('int', (), (3,))))
    (do 1) ('do', (), (('int', (), (1,)),))
    (seq 1 2) ('seq', (), (('int', (), (1,)), ('int', (), (2,))))
    (list 1) ('list', (), (('int', (), (1,)),))
    (try 1 x x) ('try', (), (('int', (), (1,)), ('name', (), (0,))))
"""


class Document(unittest.TestCase):

    def test_examples(self):
        example = doctest.DocTestParser().get_doctest(EXAMPLES, {}, "examples", None, 0)
        runner = doctest.DocTestRunner()
        results = runner.run(example)
        self.assertEqual(results.failed, 0)
        self.assertGreater(results.attempted, 15)


if __name__ == "__main__":
    unittest.main()
