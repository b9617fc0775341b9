"""[22], [23], [24]: the stepper."""

import unittest

from saidanew.books import Book
from saidanew.errors import NoPlace, SaidError, TooMany
from saidanew.programs import Program
from saidanew.reading import is_turned, reading, turned
from saidanew.stepper import Stepper, at_work
from saidanew.steps import State, line_of, outcome, state_of, step
from saidanew.texts import read_tree
from saidanew.trees import inked, subtree
from tests import programs
from tests.changes import paths
from tests.programs import BOOK, one
from tests.samples import OR


def walked(program, state=None):
    """All states of a run by steps, and for each one what was said on the way to it."""
    states, said = [state or program.start], [()]
    while outcome(states[-1]) is None:
        following, thing = step(program, states[-1])
        states.append(following)
        said.append(said[-1] if thing is None else said[-1] + (thing,))
    return states, said


def lines(program, states, first=0):
    found = [(at, line_of(program, state)) for at, state in enumerate(states)]
    return [(at, line) for at, line in found if at >= first and line is not None]


class ForthAndBack(unittest.TestCase):

    def agrees(self, stepper, number, states, said):
        self.assertEqual(stepper.number, number)
        self.assertEqual(stepper.state, states[number])
        self.assertEqual(stepper.said, said[number])
        self.assertIs(stepper.is_end, number == len(states) - 1)

    def test_by_any_numbers_past_both_ends(self):
        for program in programs.programs():
            states, said = walked(program)
            last = len(states) - 1
            stepper = Stepper(program)
            self.agrees(stepper, 0, states, said)
            number = 0
            for many in (1, 3, -2, 7, -1, 0, 5, -100, 2, 10 ** 6, -1, -1, 1, 1, 1, -10 ** 9, 2):
                if many >= 0:
                    wanted = min(many, last - number)
                    self.assertEqual(stepper.forth(many), wanted)
                    number += wanted
                else:
                    wanted = min(-many, number)
                    self.assertEqual(stepper.back(-many), wanted)
                    number -= wanted
                self.agrees(stepper, number, states, said)

    def test_defaults(self):
        stepper = Stepper(one("(or (or true) false)"))
        self.assertEqual((stepper.forth(), stepper.number), (1, 1))
        self.assertEqual((stepper.forth(), stepper.number), (1, 2))
        self.assertEqual((stepper.back(), stepper.number), (1, 1))
        self.assertEqual((stepper.forth(many=2), stepper.back(many=1), stepper.number), (2, 1, 2))
        self.assertEqual((stepper.forth(0), stepper.back(0), stepper.number), (0, 0, 2))

    def test_at_an_end(self):
        for line in ("1", "(raise 'red)", "(fun () 1)", "[1]"):
            stepper = Stepper(one(line))
            self.assertTrue(stepper.is_end)
            self.assertEqual((stepper.forth(), stepper.back(), stepper.next_line(), stepper.said), (0, 0, None, ()))
            self.assertEqual(list(stepper.lines()), [(0, line)])

    def test_one_that_begins_with_a_given_state(self):
        program = one("(or 1)")
        state = state_of(program, "(seq (say #4) (or (say 2))) where #4 = 'a")
        for stepper in (Stepper(program, state), Stepper(state=state, program=program)):
            self.assertEqual((stepper.number, stepper.state, stepper.said), (0, state, ()))
            self.assertEqual(stepper.line(), "(seq (say #1) (or (say 2))) where #1 = 'a")
            stepper.forth(1000)
            self.assertEqual(outcome(stepper.state), ("raised", ("quote", (), ("plain",))))
        program = one("(seq (say 1) (say 2))")
        stepper = Stepper(program, step(program, program.start)[0])
        self.assertEqual(stepper.said, ())
        stepper.forth()
        self.assertEqual((stepper.said, stepper.line()), ((), "(say 2)"))
        stepper.forth()
        self.assertEqual((stepper.said, stepper.number), ((("int", (), (2,)),), 2))

    def test_steppers_beside_one_another(self):
        program = one("(list (say 1) (say 2) (or (say 3)))")
        states, said = walked(program)
        first, second = Stepper(program), Stepper(program)
        first.forth(3)
        self.agrees(second, 0, states, said)
        second.forth(1)
        first.back(1)
        self.agrees(first, 2, states, said)
        self.agrees(second, 1, states, said)
        self.assertEqual(list(second.lines()), lines(program, states, 1))


class Lines(unittest.TestCase):

    def test_next_line(self):
        for program in programs.programs():
            states, said = walked(program)
            shown = lines(program, states)
            stepper = Stepper(program)
            for number, line in shown[1:]:
                self.assertEqual(stepper.next_line(), line)
                self.assertEqual((stepper.number, stepper.state, stepper.said), (number, states[number], said[number]))
                self.assertEqual(stepper.line(), line)
            before = stepper.number
            self.assertIsNone(stepper.next_line())
            self.assertEqual(stepper.number, before)

    def test_next_line_within_so_many_steps(self):
        program = one("(or (less 2 1) (none []) true)")
        stepper = Stepper(program)
        stepper.forth()
        for most in (0, 1):
            self.assertIsNone(stepper.next_line(most=most))
            self.assertEqual((stepper.number, stepper.line()), (1, "(or false (none []) true)"))
        self.assertEqual(stepper.next_line(most=2), "(or (none []) true)")
        self.assertEqual(stepper.number, 3)
        self.assertIsNone(stepper.next_line(most=0))
        self.assertEqual(stepper.next_line(most=1), "(or true true)")
        stepper.forth()
        self.assertIsNone(stepper.line())
        self.assertEqual(stepper.next_line(most=5000), "true")

    def test_next_line_where_there_is_none(self):
        # What is left of the word stays, whatever follows.
        book = Book("word keep\nrule a => (list (do a) (call f 1))\nfun f (x) => (call f x)")
        program = Program(book, "run (keep (plus 1 1))")
        stepper = Stepper(program)
        self.assertEqual(stepper.next_line(), "(keep 2)")
        self.assertIsNone(stepper.next_line(most=300))
        self.assertIsNone(stepper.next_line())
        self.assertEqual((stepper.number, stepper.line()), (1, "(keep 2)"))

    def test_without_most_it_is_5000(self):
        book = "word wait\nrule a => (list %s 1)\nfun down (n) => (if (less n 1) 0 (call down (minus n 1)))"
        stepper = Stepper(Program(Book(book % "(call down a)"), "run (wait 1249)"))
        self.assertIsNone(stepper.next_line(most=4999))
        self.assertEqual((stepper.next_line(), stepper.number), ("[0 1]", 5000))
        stepper = Stepper(Program(Book(book % "(do (call down a))"), "run (wait 1249)"))
        self.assertIsNone(stepper.next_line())
        self.assertEqual((stepper.next_line(most=5001), stepper.number), ("[0 1]", 5001))
        stepper.back(5001)
        self.assertEqual(list(stepper.lines()), [(0, "(wait 1249)")])
        stepper = Stepper(Program(Book(book % "(call down a)"), "run (wait 1249)"))
        self.assertEqual(list(stepper.lines()), [(0, "(wait 1249)"), (5000, "[0 1]")])

    def test_lines_from_the_middle_with_most(self):
        for program in programs.programs():
            states, _ = walked(program)
            stepper = Stepper(program)
            for number in range(0, len(states), 5):
                stepper.back(10 ** 4)
                stepper.forth(number)
                self.assertEqual(list(stepper.lines()), lines(program, states, number))
                for most in (0, 1, 4, 10 ** 4):
                    wanted = [pair for pair in lines(program, states, number) if pair[0] <= number + most]
                    self.assertEqual(list(stepper.lines(most=most)), wanted)
                self.assertEqual(stepper.number, number)

    def test_lines_walked_while_the_stepper_is_moved(self):
        program = one("(or (or false true) (sum 1 2))")
        states, _ = walked(program)
        stepper = Stepper(program)
        walk = stepper.lines()
        found = []
        for at, pair in enumerate(walk):
            found.append(pair)
            if at % 2:
                stepper.forth(7)
            else:
                stepper.back(3)
            stepper.next_line()
        self.assertEqual(found, lines(program, states))
        both = zip(Stepper(program).lines(), Stepper(program).lines())
        self.assertTrue(all(one == two for one, two in both))

    def test_lines_begin_where_the_stepper_is_when_the_first_pair_is_asked_for(self):
        program = one("(list (say 1) (say 2) (or (say 3)))")
        states, _ = walked(program)
        stepper = Stepper(program)
        walk = stepper.lines(most=2)
        stepper.forth(2)
        self.assertEqual(next(walk), (2, line_of(program, states[2])))
        stepper.back()
        self.assertEqual(list(walk), [pair for pair in lines(program, states, 3) if pair[0] <= 4])
        self.assertEqual(stepper.number, 1)

    def test_each_pair_is_found_when_it_is_asked_for(self):
        program = Program(Book("fun f (x) => (call f (plus x 1))"), "run (call f 1)")
        walk = Stepper(program).lines()
        self.assertEqual([next(walk) for _ in range(3)], [(0, "(call f 1)"), (1, "(call f (plus 1 1))"), (2, "(call f 2)")])
        self.assertEqual(len(list(Stepper(program).lines(most=40))), 41)

    def test_iteration(self):
        program = one("(or (or false true) (sum 1 2))")
        states, _ = walked(program)
        self.assertEqual(len(states), 6)
        stepper = Stepper(program)
        self.assertEqual(list(stepper), states[:1])
        stepper.forth(4)
        self.assertEqual(list(stepper), states[:5])
        walk = iter(stepper)
        self.assertEqual(next(walk), states[0])
        stepper.forth(1)
        self.assertEqual(list(walk), states[1:5])
        walk = iter(stepper)
        stepper.back(4)
        self.assertEqual(list(walk), states)
        self.assertEqual(list(stepper), states[:2])
        walk = iter(stepper)
        for _ in range(5):
            stepper.forth()
        self.assertEqual(list(walk), states[:2])
        self.assertEqual([state for state in stepper], states)

    def test_long_runs_take_time_by_their_steps(self):
        program = one("(let c (cell 0) (while (less (get c) 400) (set c (plus 1 (get c)))))")
        stepper = Stepper(program)
        many = 0
        while not stepper.is_end:
            many += stepper.forth()
        self.assertGreater(many, 3000)
        self.assertEqual(stepper.back(10 ** 6), many)


def binders_over(book, tree, at):
    """How many binders a node puts around one of its items."""
    head, _, items = tree
    if head == "use":
        return len(book.scopes(*items[:2])[at - 2]) if at > 1 else 0
    if head == "fun":
        return items[0]
    return int(head in ("let", "try") and at == 1)


def marked(book, tree, path):
    """The paths, in the reading of a tree, of the root of what the use at a path reads as."""
    whole, other = reading(book, tree), None
    # A `quote` in place of the use is found again in the reading.
    for text in ("'ma", "'mb"):
        mark = read_tree(text, book)
        found = {place for place in paths(reading(book, put(tree, path, mark))) if at_path(book, tree, path, mark, place)}
        other = found if other is None else other & found
    return whole, sorted(other)


def put(tree, path, other):
    if not path:
        return other
    head, ink, items = tree
    return (head, ink, items[:path[0]] + (put(items[path[0]], path[1:], other),) + items[path[0] + 1:])


def at_path(book, tree, path, mark, place):
    return subtree(reading(book, put(tree, path, mark)), place) == mark


def work_path(term):
    """The path of the node at which the next step is, by the words of [20]."""
    path = []
    while True:
        head, _, items = term
        many = 1 if head in ("let", "if", "seq", "try") else len(items)
        for at, item in enumerate(items[:many]):
            if item[0] not in ("int", "quote", "flag", "global", "made", "ref", "fun"):
                path.append(at)
                term = item
                break
        else:
            return tuple(path), term


def caught_at(term, path):
    """The path of the innermost `try` around a raise, or None."""
    for many in reversed(range(len(path))):
        if subtree(term, path[:many])[0] == "try":
            return path[:many]
    return None


class Over(unittest.TestCase):

    def wanted(self, program, states, number, path):
        """How many steps over the use at a path are, or None where there is no such place."""
        book, state = program.book, states[number]
        back = turned(book, state.term)
        if line_of(program, state) is None or number == len(states) - 1 or subtree(back, path)[0] != "use":
            return None
        whole, places = marked(book, back, path)
        self.assertEqual(whole, state.term)
        work, _ = work_path(state.term)
        place = [place for place in places if work[:len(place)] == place]
        if not place:
            return None
        place, = place
        for at in range(number + 1, len(states)):
            work, node = work_path(states[at - 1].term)
            caught = caught_at(states[at - 1].term, work) if node[0] == "raise" else None
            if caught is not None and len(caught) < len(place) and place[:len(caught)] == caught or at == len(states) - 1:
                return at - number
            here = subtree(states[at].term, place)
            if here[0] in ("int", "quote", "flag", "global", "made", "ref", "fun"):
                return at - number
        return None

    def test_at_all_places_of_all_lines(self):
        counts = set()
        for program in programs.programs():
            states, said = walked(program)
            stepper = Stepper(program)
            for number, _ in lines(program, states)[:25]:
                back = turned(program.book, states[number].term)
                for path in paths(back):
                    stepper.back(10 ** 6)
                    stepper.forth(number)
                    wanted = self.wanted(program, states, number, path)
                    counts.add(wanted)
                    if wanted is None:
                        with self.assertRaises(NoPlace) as caught:
                            stepper.over(path)
                        self.assertEqual(caught.exception.path, path)
                        self.assertEqual((stepper.number, stepper.said), (number, said[number]))
                        continue
                    with self.assertRaises(TooMany) as caught:
                        stepper.over(path, most=wanted - 1)
                    self.assertEqual(caught.exception.most, wanted - 1)
                    self.assertEqual((stepper.number, stepper.state, stepper.said), (number, states[number], said[number]))
                    self.assertEqual(stepper.over(path, most=wanted), wanted)
                    self.assertEqual((stepper.number, stepper.said), (number + wanted, said[number + wanted]))
                    other = Stepper(program)
                    other.forth(number)
                    self.assertEqual(other.over(path), wanted)
                    self.assertEqual(other.state, stepper.state)
                    stepper.back(wanted)
                    stepper.forth(wanted)
                    self.assertEqual(stepper.state, other.state)
        self.assertTrue({None, 1, 2, 5} <= counts, counts)

    def over(self, line, path, number=0):
        stepper = Stepper(one(line))
        stepper.forth(number)
        many = stepper.over(path)
        self.assertEqual(stepper.number, number + many)
        return many, stepper.line()

    def test_at_the_root_and_elsewhere(self):
        self.assertEqual(self.over("(or 1)", ()), (1, "1"))
        self.assertEqual(self.over("(list 1 (or 1) 2)", (1,)), (1, "(list 1 1 2)"))
        self.assertEqual(self.over("(or (less 1 2) 1)", ()), (3, "true"))
        self.assertEqual(self.over("(list (or (or (or 3)) 1))", (0, 2)), (2, "(list (or 3 1))"))
        self.assertEqual(self.over("(list (or (or (or 3)) 1))", (0, 2, 2)), (1, "(list (or (or 3) 1))"))

    def test_uses_in_arguments_that_stand_several_times(self):
        # The first `(or 7)` is at work, then the second one.
        self.assertEqual(self.over("(twice (or 7))", (2,)), (1, None))
        program = Program(BOOK, "run (twice (or 7))")
        self.assertEqual([line for _, line in Stepper(program).lines()], ["(twice (or 7))", "(twice 7)", "[7 7]"])
        self.assertEqual(self.over("(twice (or 7))", ()), (3, "[7 7]"))
        with self.assertRaises(NoPlace):
            self.over("(twice (or 8) (or (or 7)))", (3, 2))

    def test_a_raise(self):
        # Caught inside of the place, at it, and around it; caught nowhere.
        self.assertEqual(self.over("(or (try (raise 'red) x (do x)))", ()), (3, "'red"))
        self.assertEqual(self.over("(list (safe (raise 'red) (plus 1 1)))", (0,)), (4, "(list 2)"))
        self.assertEqual(self.over("(try (list (or (raise 'red) 1)) x (do x))", (0, 0)), (1, "(do 'red)"))
        self.assertEqual(self.over("(try (or (or (raise (do 'red)) 1)) x (do x))", (0, 2)), (2, "(do 'red)"))
        self.assertEqual(self.over("(safe (or (raise 'red)) (do 1))", (2,)), (1, None))
        self.assertEqual(self.over("(list (or (or (raise 'red))))", (0, 2)), (1, "(raise 'red)"))

    def test_no_step_is_there(self):
        for line, path in (("(list 1 (or 2) (or 3))", (2,)), ("(list 1 2)", ()), ("(fun () (or 1))", (1,)), ("(or 1)", (2,)),
                           ("(or 1)", (0,)), ("(or 1)", (3,)), ("(or 1)", (2, 0, 1)), ("(let x (or 1) (or x))", (1,)),
                           ("(for x (or 1) (or x))", (3,)), ("(list (thunk 1) (or 2))", (0,)), ("(thunk 1)", ()),
                           ("[(thunk 1)]", (0,)), ("(list [(thunk 1)] (or 1))", (0, 0)), ("(do 1)", (7, 7)), ("1", ()), ("(raise 'a)", ()),
                           ("(raise (or 1))", ())):
            with self.subTest(line, path=path):
                stepper = Stepper(one(line))
                with self.assertRaises(NoPlace) as caught:
                    stepper.over(path)
                self.assertEqual(caught.exception.path, path)
                self.assertEqual(stepper.number, 0)

    def test_a_hidden_state(self):
        stepper = Stepper(one("(or (or false 1) 2)"))
        stepper.forth(1)
        self.assertIsNone(stepper.line())
        for path in ((), (2,)):
            self.assertRaises(NoPlace, lambda: stepper.over(path))
        # A state is hidden, too, if a cell's value is.
        program = Program(BOOK, "run 1")
        hidden = step(program, state_of(program, "(or false 1)"))[0].term
        state = State(("list", (), (("ref", (), (1,)), reading(BOOK, read_tree("(or 1)", BOOK)))), (("fun", (), (0, hidden)),))
        self.assertRaises(NoPlace, lambda: Stepper(program, state).over((1,)))

    def test_most(self):
        stepper = Stepper(one("(seq (say 1) (or (say 2) (plus 1 1)))"))
        stepper.forth(2)
        for most in (0, 1, 2):
            with self.assertRaises(TooMany) as caught:
                stepper.over((), most=most)
            self.assertEqual(caught.exception.most, most)
            self.assertEqual((stepper.number, stepper.said), (2, (("int", (), (1,)),)))
        # `kind` is raised, for 2 is no flag.
        self.assertEqual((stepper.over(path=(), most=3), stepper.line()), (3, "(raise 'kind)"))
        self.assertIsInstance(NoPlace(()), SaidError)

    def test_where_there_is_no_end(self):
        program = Program(Book(OR + "\nfun f (x) => (call f x)"), "run (list (or (call f 1)))")
        stepper = Stepper(program)
        with self.assertRaises(TooMany) as caught:
            stepper.over((0,))
        self.assertEqual((caught.exception.most, stepper.number), (5000, 0))


class AtWork(unittest.TestCase):

    def words(self, line, number):
        program = one(line)
        stepper = Stepper(program)
        stepper.forth(number)
        return at_work(program, stepper.state)

    def test_none_one_and_several(self):
        self.assertEqual(self.words("(or 1)", 0), ())
        self.assertEqual(self.words("(or (or false 1) 2)", 1), ("or",))
        self.assertEqual(self.words("(safe (or (or false false)) 2)", 1), ("or",))
        self.assertEqual(self.words("(twice (for x (or true 2) 5))", 1), ("or", "twice"))
        self.assertEqual(at_work(state=State(("int", (), (1,))), program=one("1")), ())

    def test_along_runs(self):
        seen = set()
        for program in programs.programs():
            for state in walked(program)[0]:
                back = turned(program.book, state.term)
                words = sorted({ink[-1][0] for _, ink in inked(back)})
                self.assertEqual(at_work(program, state), tuple(words))
                self.assertEqual(at_work(program, state) == (), is_turned(back))
                seen.add(len(words))
        self.assertTrue({0, 1, 2} <= seen, seen)

    def test_the_last_marks_of_given_states(self):
        program = one("1")
        ink = (("or", 0, ()), ("twice", 1, (0,)))
        term = ("list", ink, (("do", (("zz", 5, (1,)),), (("int", (), (1,)),)), ("do", (("for", 0, (1,)),), (("int", (), (1,)),))))
        self.assertEqual(at_work(program, State(term)), ("for", "twice", "zz"))

    def test_ink_in_cells_alone(self):
        program = one("(cell (fun () (or true 1)))")
        hidden = ("fun", (), (0, ("do", (("or", 1, (0,)),), (("int", (), (1,)),))))
        state = State(("ref", (), (1,)), (hidden,))
        self.assertIsNone(line_of(program, state))
        self.assertEqual(at_work(program, state), ())


if __name__ == "__main__":
    unittest.main()
