"""[25]: the machine."""

import unittest

from saidanew.books import Book
from saidanew.errors import AtEnd, SaidError
from saidanew.machine import Machine
from saidanew.programs import Program
from saidanew.reading import reading
from saidanew.stepper import Stepper
from saidanew.steps import line_of, outcome
from saidanew.trees import count
from tests import programs, samples
from tests.programs import BOOK, one


class Alike(unittest.TestCase):
    """At every number of a run state, line and said things are those of the stepper."""

    def alike(self, program, most=400):
        machine, stepper = Machine(program), Stepper(program)
        while True:
            state = machine.state
            self.assertEqual(machine.number, stepper.number)
            self.assertEqual(state, stepper.state)
            self.assertEqual(machine.line(), stepper.line())
            if stepper.is_end or stepper.number >= most or count(state.term) > 1500:
                break
            before = stepper.said
            stepper.forth()
            said = machine.step()
            self.assertEqual(before + (() if said is None else (said,)), stepper.said)
        if stepper.is_end:
            for _ in range(2):
                self.assertRaises(AtEnd, machine.step)
            self.assertEqual((machine.number, machine.state), (stepper.number, stepper.state))
        return stepper

    def test_programs(self):
        for program in programs.programs():
            self.alike(program)

    def line(self, text, end, said=(), book=BOOK):
        program = one(text) if book is BOOK else Program(book, text)
        stepper = self.alike(program)
        self.assertEqual((stepper.line(), stepper.said), (end, tuple(("int", (), (number,)) for number in said)))

    def test_functions_that_are_returned_kept_and_called_later(self):
        self.line("(let add (fun (x) (fun (y) (plus x y))) (let two (call add 2) (let c (cell two) (call (get c) (call two 3)))))", "7")
        self.line("(let k (let x 5 (list (fun (y) (minus x y)) (fun () x))) (list (call (first k) 2) (call (first (rest k)))))", "[3 5]")
        self.line("(let c (cell 0) (seq (let x 7 (set c (fun (y) (list x y c)))) (call (get c) 1)))",
                  "[7 1 #1] where #1 = (fun (a) (list 7 a #1))")
        self.line("(let x 1 (let f (fun () (fun (y z) (list x y z (fun () (list x z))))) (call (call f) 2 3)))", "[1 2 3 (fun () (list 1 3))]")
        self.line("(let x 1 (fun (y) (let x y (try (raise 'a) z (list x y z (fun (y) (list x y)))))))",
                  "(fun (a) (let b a (try (raise 'a) c (list b a c (fun (d) (list b d))))))")

    def test_names_that_hide_one_another(self):
        self.line("(let x 1 (let x (plus x 1) (let x (times x 5) (list x (let x 3 x) x))))", "[10 3 10]")
        self.line("(call (fun (x x) (list x (call (fun (x) x) 9) x)) 1 2)", "[2 9 2]")
        self.line("(let f (fun (total) (list total)) (call f total))", "[total]")
        self.line("(let even 3 (fun () (list even (call odd 1))))", "(fun () (list 3 (call odd 1)))")

    def test_raises_through_functions(self):
        self.line("(try (call (fun (f) (list 1 (call f 2))) (fun (x) (raise (say x)))) e (list e))", "[2]", (2,))
        self.line("(let x 5 (try (let y (plus x 1) (list y (raise 'a))) e (list e x)))", "['a 5]")
        self.line("(let x 5 (list x (call (fun (y) (plus x (raise 'a))) 1)))", "(raise 'a)")
        self.line("(let x 4 (raise (fun (y) (plus x y))))", "(raise (fun (a) (plus 4 a)))")
        self.line("(try (let x 4 (raise (fun (y) (plus x y)))) f (call f 3))", "7")
        self.line("(try (try (raise 1) x (raise (plus x 1))) y (plus y 1))", "3")

    def test_ink_of_values_stays(self):
        book = Book("word keep\nrule a => (let k (fun (x) (list x a)) (list k (call k 1) k))\nword lett\nrule !x a b => (let x a b)")
        self.alike(Program(book, "run (lett z (fun () 3) (keep (call z)))"))
        self.alike(Program(book, "run (lett z 3 (fun (q) (keep (list z q))))"))
        self.alike(Program(book, "run (call (lett z 3 (fun (q) (keep (list z q)))) 4)"))

    def test_cells(self):
        self.line("(list #3 (get #1)) where #1 = 4 , #3 = (fun () #1)", "[#1 4] where #1 = (fun () #2) , #2 = 4")
        self.line("(seq (cell 1) (seq (cell 2) (let c (cell 3) (seq (cell c) (list c (cell 9) c)))))", "[#1 #2 #1] where #1 = 3 , #2 = 9")
        self.line("(let c (cell 1) (seq (set c c) (list c (get c) (get (get c)))))", "[#1 #1 #1] where #1 = #1")
        self.line("(list (try (get 1) x x) (try (set 'a 1) x x))", "['kind 'kind]")

    def test_functions_by_name(self):
        self.line("(list (call even 3) (call g 3) (call (fun (f) (call f [1 2])) total))", "[false [3 2 1] 3]")
        self.line("(call f (cell 1) 3)", "7")
        self.line("(call even 1 2)", "(raise 'kind)")
        self.line("(call 5)", "(raise 'kind)")
        self.line("(call (fun () 1) 2)", "(raise 'kind)")

    def test_random_trees(self):
        ends = {}
        for book in samples.books():
            for seed in range(120):
                maker = samples.Maker(book, 4000 + seed)
                program = Program(book, "run 1")
                tree = reading(book, maker.tree(5, has_uses=True))
                if count(tree) < 200:
                    program._start = type(program.start)(tree)
                    stepper = self.alike(program, 60)
                    end = outcome(stepper.state)
                    ends[end and end[0]] = ends.get(end and end[0], 0) + 1
        self.assertGreater(ends["value"], 50)
        self.assertGreater(ends["raised"], 50)


class Going(unittest.TestCase):

    def test_run(self):
        for program in programs.programs():
            stepper = Stepper(program)
            stepper.forth(10 ** 4)
            machine = Machine(program)
            self.assertEqual(machine.run(), outcome(stepper.state))
            self.assertEqual((machine.number, machine.state), (stepper.number, stepper.state))
            self.assertEqual(machine.run(), outcome(stepper.state))
            self.assertEqual(machine.number, stepper.number)

    def test_run_with_most(self):
        program = one("(list (or 1) (say 2) (or 3))")
        machine = Machine(program)
        self.assertIsNone(machine.run(most=0))
        self.assertEqual(machine.number, 0)
        self.assertIsNone(machine.run(most=2))
        self.assertEqual((machine.number, machine.line()), (2, "(list 1 2 (or 3))"))
        self.assertIsNone(machine.run(most=1))
        self.assertEqual(machine.run(most=1), ("value", ("made", (), tuple(("int", (), (at,)) for at in (1, 2, 3)))))
        self.assertEqual(machine.number, 4)
        endless = Machine(Program(Book("fun f (x) => (call f x)"), "run (call f 1)"))
        self.assertIsNone(endless.run())
        self.assertEqual(endless.number, 5000)

    def test_at_end(self):
        self.assertTrue(issubclass(AtEnd, SaidError))
        for line in ("1", "(raise 'a)", "(fun () 1)", "total"):
            machine = Machine(program=one(line))
            self.assertRaises(AtEnd, machine.step)
            self.assertEqual((machine.number, machine.line()), (0, line))

    def test_copies_go_on_apart(self):
        program = one("(let c (cell 0) (seq (say 5) (seq (set c (plus (get c) 1)) (list (or false true) c (cell 7)))))")
        stepper = Stepper(program)
        stepper.forth(1000)
        for number in range(stepper.number):
            machine = Machine(program)
            machine.run(most=number)
            other = machine.copied()
            before = machine.state
            other.run()
            self.assertEqual((machine.number, machine.state, other.state), (number, before, stepper.state))
            third = machine.copied()
            machine.run()
            self.assertEqual((third.number, third.state), (number, before))
            third.step()
            self.assertEqual(third.number, number + 1)
            self.assertEqual((machine.number, machine.state), (stepper.number, stepper.state))

    def test_asking_changes_nothing(self):
        program = one("(let c (cell (fun () 1)) (seq (set c (fun () (list c (get c)))) (call (get c))))")
        machine = Machine(program)
        while machine.run(most=1) is None:
            self.assertEqual(machine.state, machine.state)
            self.assertEqual(machine.line(), line_of(program, machine.state))

    def test_time_by_the_number_of_steps(self):
        machine = Machine(one("(let c (cell 0) (while (less (get c) 2000) (set c (plus 1 (get c)))))"))
        self.assertIsNone(machine.run(most=10 ** 4))
        self.assertEqual(machine.run(most=10 ** 5)[0], "value")


if __name__ == "__main__":
    unittest.main()
