"""[4] as far as it speaks of runs, [27], and [14], [2], [3] for what runs are."""

import unittest

from saidanew.books import Book
from saidanew.errors import AtEnd, NoPlace, NoProgram, TooMany
from saidanew.expansions import expansion_of
from saidanew.machine import Machine
from saidanew.opens import open_arguments
from saidanew.programs import Program
from saidanew.reading import is_turned, reading, turned
from saidanew.stepper import Stepper, at_work
from saidanew.steps import line_of, outcome, state_of
from saidanew.texts import read_tree, show_tree
from saidanew.trees import count, subtree, with_subtree
from tests import programs
from tests.programs import BOOK, LINES, OWN, one
from tests.test_stepper import caught_at, lines, walked, work_path

RUNS = [(program, *walked(program)) for program in programs.programs()]


class TypedAnew(unittest.TestCase):

    def test_each_shown_line_goes_on_as_the_run_did(self):
        for program, states, said in RUNS:
            for number, line in lines(program, states):
                self.assertEqual(state_of(program, line), states[number])
                functions = "fun f (p q) => 1\nfun g () => 1\nfun h () => 1\n"
                self.assertEqual(Program(program.book, functions + "run " + line).start, states[number])
            for number, line in lines(program, states)[::7]:
                again = Program(program.book, OWN + "run " + line)
                other, other_said = walked(again)
                self.assertEqual(other, states[number:])
                self.assertEqual([said[number] + things for things in other_said], said[number:])
                self.assertEqual(lines(again, other), [(at - number, text) for at, text in lines(program, states, number)])

    def test_at_most_one_text(self):
        for program, states, _ in RUNS:
            for state in states:
                back = turned(program.book, state.term)
                self.assertEqual(reading(program.book, back), state.term)
                if is_turned(back):
                    text = show_tree(back, program.book, program.functions)
                    self.assertEqual(read_tree(text, program.book, program.functions), back)


class OpenArguments(unittest.TestCase):
    """[27]"""

    def arguments_at_work(self, program, state):
        """The arguments of uses in which the next step is, from the outermost on: path in the line, whether open, place."""
        work, _ = work_path(state.term)
        node, path, place, found = turned(program.book, state.term), (), (), []
        while place != work or node[0] == "use":
            if node[0] == "use":
                word, n = node[2][:2]
                ways = expansion_of(program.book.lexicon, word, n).paths
                here = [(k, way) for k, some in enumerate(ways) for way in some if work[:len(place + way)] == place + way]
                if not here:
                    break
                (number, way), = here
                at = number + 2
                found.append((path + (at,), number in open_arguments(program.book, word, n), place + way))
            else:
                at, way = work[len(place)], (work[len(place)],)
            node, path, place = node[2][at], path + (at,), place + way
        return found

    def test_when_a_line_is_followed_by_a_line(self):
        seen = set()
        for program, states, _ in RUNS:
            for number, line in lines(program, states):
                if number == len(states) - 1:
                    continue
                state, following = states[number], states[number + 1]
                found = self.arguments_at_work(program, state)
                if not found:
                    continue
                path, _, place = found[-1]
                work, node = work_path(state.term)
                if node[0] == "raise":
                    catcher = caught_at(state.term, work)
                    if catcher is None or len(catcher) < len(place):
                        continue
                after = subtree(following.term, place)
                back = turned(program.book, after)
                cells = [turned(program.book, value) for value in following.cells]
                if not is_turned(back) or not all(map(is_turned, cells)):
                    continue
                text = line_of(program, following)
                are_open = all(is_open for _, is_open, _ in found)
                seen.add((are_open, len(found) > 1, bool(state.cells)))
                if are_open:
                    self.assertIsNotNone(text, line)
                elif after != subtree(state.term, place):
                    self.assertIsNone(text, line)
                if text is not None and len(following.cells) == len(state.cells):
                    wanted = with_subtree(turned(program.book, state.term), path, back)
                    self.assertEqual(turned(program.book, following.term), wanted)
        self.assertEqual(len(seen), 8, seen)

    def test_an_argument_that_stays_as_it_was(self):
        program = Program(BOOK, "fun k (x) => (call k x)\nrun (twice (call k 1))")
        stepper = Stepper(program)
        self.assertEqual([stepper.next_line(most=1) for _ in range(3)], ["(twice (call k 1))"] * 3)
        self.assertNotIn(0, open_arguments(BOOK, "twice", 1))

    def test_a_raise_that_leaves_an_argument(self):
        program = one("(try (or (raise 'red) 1) x (or x))")
        self.assertEqual(list(Stepper(program).lines())[1], (1, "(or 'red)"))


class ClearerBooks(unittest.TestCase):

    def test_each_line_is_a_line_of_the_same_run_in_a_book_with_more_clear_places(self):
        more = {0: 0}
        for word, rule, path in (("or", 1, (1,)), ("for", 0, (0,)), ("twice", 1, (1,)), ("while", 0, (1, 0)), ("while", 0, (1, 0, 1)),
                                 ("while", 0, (1, 0, 1, 1)), ("step", 0, (0,)), ("sum", 0, (1,)), ("forboth", 0, (0,)), ("unless", 0, (0,)),
                                 ("while", 0, (0,)), ("safe", 0, (1,)), ("safe", 0, (1, 0))):
            book = BOOK.with_clear(word, rule, path)
            for program, states, _ in RUNS:
                line = line_of(program, program.start)
                clearer = Program(book, OWN + "run " + line)
                other, _ = walked(clearer)
                self.assertEqual(len(other), len(states))
                shown, shown_there = dict(lines(program, states)), dict(lines(clearer, other))
                for number, text in shown.items():
                    self.assertEqual(shown_there.get(number), text)
                more[len(shown_there) > len(shown)] = more.get(len(shown_there) > len(shown), 0) + 1
        self.assertGreater(more[True], 5)


class DeepValues(unittest.TestCase):
    """[14] for values of runs: some thirty functions one in another, more binders than letters."""

    def test_functions_one_in_another(self):
        book = Book("word thunk\nrule a => (fun () a)\nword keep\nrule !x a b => (call (fun (x) b) a)")
        program = Program(book, "fun b (f n) => (if (less n 1) f (call b (fun (x y z w) (list f x y z w)) (minus n 1)))\n"
                                "fun da () => 1\nrun (call b (fun (x) (thunk (keep y x (list y x)))) 33)")
        states, _ = walked(program)
        stepper, machine = Stepper(program), Machine(program)
        stepper.forth(10 ** 4)
        machine.run()
        self.assertEqual(machine.state, stepper.state)
        line = stepper.line()
        self.assertIn("(fun (a c d e) (list (fun (f g h i) (list (fun (j k l m)", line)
        self.assertIn(" cz ", line)
        self.assertIn(" dm dn) (list (fun (dp dq ", line)
        self.assertNotIn("da", line)
        self.assertEqual(state_of(program, line), states[-1])
        self.assertEqual(count(states[-1].term), 33 * 6 + 8)


class AllOfThem(unittest.TestCase):
    """[2], [3]"""

    def test_arguments_by_name(self):
        program = Program(book=BOOK, text="run (list (say 1) (or 2))")
        stepper = Stepper(program=program, state=None)
        self.assertEqual(stepper.forth(many=2), 2)
        self.assertEqual(stepper.back(many=1), 1)
        self.assertEqual(stepper.over(path=(1,), most=1), 1)
        self.assertEqual(stepper.next_line(most=1), "[1 2]")
        self.assertEqual(list(stepper.lines(most=1)), [(3, "[1 2]")])
        self.assertEqual(at_work(program=program, state=stepper.state), ())
        machine = Machine(program=program)
        self.assertEqual(machine.run(most=2), None)
        self.assertEqual(open_arguments(book=BOOK, word="or", n=1), (0,))
        for call in (lambda: stepper.lines(1), lambda: stepper.next_line(1), lambda: stepper.over((), 1), lambda: machine.run(1)):
            self.assertRaises(TypeError, call)

    def test_a_refused_call_changes_nothing(self):
        program = one("(list (say 1) (or (say 2) 3))")
        stepper, machine = Stepper(program), Machine(program)
        stepper.forth(2), machine.run(most=2)
        before = (stepper.number, stepper.state, stepper.said, machine.number, machine.state)
        for path, most in (((0,), 5000), ((1, 5), 5000), ((1,), 0), ((1,), 1), ((), 10)):
            with self.assertRaises((NoPlace, TooMany)):
                stepper.over(path, most=most)
        with self.assertRaises(KeyError):
            program.body("nobody")
        self.assertEqual((stepper.number, stepper.state, stepper.said, machine.number, machine.state), before)
        machine.run()
        self.assertRaises(AtEnd, machine.step)

    def test_the_same_call_returns_an_equal_result(self):
        first = [[(state, line_of(program, state)) for state in states] for program, states, _ in RUNS[:9]]
        for program, _, _ in RUNS:
            Machine(program).run()
            Stepper(program).next_line()
            with self.assertRaises(NoProgram):
                Program(program.book, "run x")
        again = [[(state, line_of(program, state)) for state in walked(program)[0]] for program, _, _ in RUNS[:9]]
        self.assertEqual(first, again)
        self.assertEqual([Program(BOOK, OWN + "run " + line) for line in LINES], [program for program, _, _ in RUNS])

    def test_lists_that_are_returned_are_new(self):
        stepper = Stepper(one("(list (say 1) (or (say 2) 3))"))
        stepper.forth(3)
        pairs = list(stepper.lines())
        pairs.clear()
        states = list(stepper)
        states.clear()
        self.assertEqual(len(list(stepper)), 4)
        self.assertIsInstance(stepper.said, tuple)

    def test_bounds(self):
        program = Program(Book(""), "fun f (n x) => (if (less n 1) x (call f (minus n 1) (put n x)))\nrun (call f 800 [])")
        machine = Machine(program)
        self.assertEqual(count(machine.run()[1]), 801)
        program = Program(Book(""), "fun p (n x) => (if (less n 1) x (call p (minus n 1) (times x 1000000)))\nrun (call p 50 1)")
        stepper = Stepper(program)
        stepper.forth(1000)
        self.assertEqual(stepper.line(), "1" + "0" * 300)
        program = Program(Book(""), "fun d (n) => (if (less n 1) 0 (plus 1 (call d (minus n 1))))\nrun (call d 105)")
        stepper, machine = Stepper(program), Machine(program)
        self.assertEqual((stepper.forth(10 ** 4), machine.run()), (105 * 5 + 3, ("value", ("int", (), (105,)))))
        self.assertEqual(outcome(stepper.state), outcome(machine.state))


if __name__ == "__main__":
    unittest.main()
