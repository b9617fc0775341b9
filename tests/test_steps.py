"""[19], [20]: states, and their steps."""

import unittest

from saidanew.books import Book
from saidanew.errors import AtEnd
from saidanew.programs import Program
from saidanew.reading import reading
from saidanew.steps import State, outcome, settled, state_of, step
from saidanew.texts import read_tree, show_tree
from saidanew.trees import bared
from tests import samples
from tests.samples import FOR, OR
from tests.stepping import next_by_the_table

BOOK = Book(OR + "\n" + FOR + "\nfun one () => 1\nfun twice (x) => (plus x x)\nfun or (x y) => (list x y)")
PROGRAM = Program(BOOK, "fun pair (x y) => (list y x)\nfun down (n) => (if (less n 1) 'end (call down (minus n 1)))\nrun 1")
FUNCTIONS = PROGRAM.functions


def read(text):
    return reading(BOOK, read_tree(text, BOOK, FUNCTIONS))


def shown(tree):
    return show_tree(bared(tree), BOOK, FUNCTIONS)


def integer(number):
    return ("int", (), (number,))


def fault(word):
    return ("raise", (), (("quote", (), (word,)),))


class States(unittest.TestCase):

    def test_attributes_and_defaults(self):
        state = State(integer(1))
        self.assertEqual((state.term, state.cells), (integer(1), ()))
        state = State(term=("ref", (), (1,)), cells=(integer(2),))
        self.assertEqual((state.term, state.cells), (("ref", (), (1,)), (integer(2),)))

    def test_equal_to_states_alone(self):
        state = State(("ref", (), (1,)), (integer(2),))
        self.assertTrue(state == State(("ref", (), (1,)), (integer(2),)))
        self.assertFalse(state != State(("ref", (), (1,)), (integer(2),)))
        for other in (State(("ref", (), (1,)), (integer(3),)), State(integer(1)), State(("ref", (), (1,)), (integer(2), integer(2))),
                      ("ref", (), (1,)), (state.term, state.cells), "#1 where #1 = 2", None, 1, [], State, PROGRAM, BOOK):
            self.assertFalse(state == other)
            self.assertFalse(other == state)
            self.assertTrue(state != other)

    def test_inks_count(self):
        self.assertNotEqual(State(("list", (("or", 0, ()),), ())), State(("list", (), ())))


class Settled(unittest.TestCase):

    def settles(self, term, cells, new_term, new_cells):
        cells = tuple(read(text) for text in cells)
        state = settled(read(term), cells)
        self.assertEqual((shown(state.term), [shown(value) for value in state.cells]), (new_term, new_cells))
        self.assertEqual(settled(state.term, state.cells), state)
        self.assertEqual(settled(term=read(term), cells=cells), state)

    def test_without_cells(self):
        self.settles("1", (), "1", [])
        self.settles("1", ("2", "3"), "1", [])

    def test_in_the_order_of_the_term_in_preorder(self):
        self.settles("(list #3 #1 #3 #2)", ("1", "2", "3"), "(list #1 #2 #1 #3)", ["3", "1", "2"])
        self.settles("(seq (do (do #2)) #1)", ("1", "2"), "(seq (do (do #1)) #2)", ["2", "1"])
        self.settles("(let x [#2 [(fun () #3)]] #1)", ("1", "2", "3"), "(let a [#1 [(fun () #2)]] #3)", ["2", "3", "1"])
        self.settles("(list #1 #2)", ("1", "2"), "(list #1 #2)", ["1", "2"])

    def test_then_in_the_cells_values_in_order(self):
        self.settles("(list #2 #1)", ("[#4 #3]", "#5", "3", "4", "5"), "(list #1 #2)", ["#3", "[#4 #5]", "5", "4", "3"])
        self.settles("#4", ("1", "#1", "#2", "#3"), "#1", ["#2", "#3", "#4", "1"])
        self.settles("#2", ("#2", "#1"), "#1", ["#2", "#1"])
        self.settles("#2", ("1", "#2"), "#1", ["#1"])

    def test_others_are_left_out(self):
        self.settles("#2", ("#3", "5", "#1"), "#1", ["5"])
        self.settles("[#3]", ("#2", "#1", "(fun (x) (list x #5))", "4", "'e"), "[#1]", ["(fun (a) (list a #2))", "'e"])

    def test_inks_stay(self):
        term = ("list", (("or", 0, ()),), (("ref", (), (2,)),))
        value = ("fun", (("w", 1, (2,)),), (0, ("ref", (), (1,))))
        state = settled(term, (integer(1), value))
        self.assertEqual(state.term, ("list", (("or", 0, ()),), (("ref", (), (1,)),)))
        self.assertEqual(state.cells, (("fun", (("w", 1, (2,)),), (0, ("ref", (), (2,)))), integer(1)))


class Steps(unittest.TestCase):

    def run_of(self, line, program=PROGRAM):
        """All states of the run of a line, each compared with the table of the document."""
        state = state_of(program, line)
        states, said = [state], []
        while outcome(state) is None:
            following, thing = step(program, state)
            self.assertEqual((following.term, following.cells, thing), next_by_the_table(program, state))
            self.assertEqual(step(program, state), (following, thing))
            state = following
            states.append(state)
            if thing is not None:
                said.append(thing)
        with self.assertRaises(AtEnd):
            step(program, state)
        self.said = said
        return states

    def becomes(self, *texts):
        """The terms of a run, one after the other; a program that is a line alone."""
        states = self.run_of(texts[0])
        self.assertEqual([shown(state.term) for state in states], [shown(read(text)) for text in texts])
        return states

    def faults(self, word, *texts):
        """A node that becomes a raise, by itself and inside of something."""
        for text in texts:
            with self.subTest(text):
                state = step(PROGRAM, State(read(text)))[0]
                self.assertEqual(state, State(fault(word)))
                self.assertEqual(outcome(state), ("raised", ("quote", (), (word,))))
                inner = step(PROGRAM, State(("seq", (), (read(text), integer(1)))))[0]
                self.assertEqual(inner.term, ("seq", (), (fault(word), integer(1))))
                self.assertIsNone(step(PROGRAM, State(read(text)))[1])

    def test_call(self):
        self.becomes("(call (fun () 1))", "1")
        self.becomes("(call (fun (x) x) 1)", "1")
        self.becomes("(call (fun (a b c d) (list d c b a)) 1 2 3 4)", "(list 4 3 2 1)", "[4 3 2 1]")
        self.becomes("(call (fun (x x) x) 1 2)", "2")
        self.becomes("(call (fun (x) (fun (y) (list x y))) 1)", "(fun (a) (list 1 a))")
        self.becomes("(call (fun (x) (let x (do x) x)) 1)", "(let a (do 1) a)", "(let a 1 a)", "1")

    def test_call_of_functions(self):
        self.becomes("(call one)", "1")
        self.becomes("(call twice 4)", "(plus 4 4)", "8")
        self.becomes("(call pair 1 2)", "(list 2 1)", "[2 1]")
        self.becomes("(call (first (list twice one)) 3)", "(call (first [twice one]) 3)", "(call twice 3)", "(plus 3 3)", "6")
        self.becomes("(call (fun (f) (call f 2)) twice)", "(call twice 2)", "(plus 2 2)", "4")
        self.assertEqual(shown(self.run_of("(call down 3)")[-1].term), "'end")

    def test_a_function_of_the_book_beside_a_word_of_its_name(self):
        self.becomes("(call or 1 2)", "(list 1 2)", "[1 2]")

    def test_wrong_numbers_of_arguments(self):
        self.faults("kind", "(call (fun () 1) 2)", "(call (fun (x) 1))", "(call (fun (x y) 1) 1)", "(call one 1)", "(call twice)",
                    "(call twice 1 2)", "(call pair 1)", "(call pair 1 2 3)")

    def test_call_of_what_is_no_function(self):
        self.faults("kind", "(call 1)", "(call 'one)", "(call true 1)", "(call [] 1)", "(call [one])")
        state = state_of(PROGRAM, "(call #1) where #1 = one")
        self.assertEqual(step(PROGRAM, state), (State(fault("kind")), None))

    def test_let(self):
        self.becomes("(let x 1 (list x x))", "(list 1 1)", "[1 1]")
        self.becomes("(let x 1 2)", "2")
        self.becomes("(let x 1 (let y 2 (fun (z) (list x y z))))", "(let a 2 (fun (b) (list 1 a b)))", "(fun (a) (list 1 2 a))")

    def test_if(self):
        self.becomes("(if true (do 1) (do 2))", "(do 1)", "1")
        self.becomes("(if false (do 1) (do 2))", "(do 2)", "2")
        self.faults("kind", "(if 1 2 3)", "(if 0 2 3)", "(if [] 2 3)", "(if 'a 2 3)", "(if one 2 3)", "(if (fun () true) 2 3)")

    def test_do_and_seq(self):
        self.becomes("(do 1)", "1")
        self.becomes("(do (do one))", "(do one)", "one")
        self.becomes("(seq 1 (do 2))", "(do 2)", "2")

    def test_numbers(self):
        for text, result in (("(plus 2 3)", "5"), ("(minus 2 3)", "-1"), ("(times -2 3)", "-6"), ("(less 2 3)", "true"),
                             ("(less 3 3)", "false"), ("(less 3 2)", "false"), ("(less -3 -2)", "true"), ("(times 0 -5)", "0"),
                             ("(plus 999999999999 1)", "1000000000000")):
            self.becomes(text, result)
        for head in ("plus", "minus", "times", "less"):
            for pair in ("1 true", "false 1", "'a 1", "1 'a", "[] 1", "1 []", "one 1", "1 (fun () 1)", "true false", "'a 'b"):
                self.faults("kind", f"({head} {pair})")

    def test_integers_beyond_64_bits(self):
        big = 10 ** 299 + 7
        for head, result in (("plus", 2 * big), ("minus", 0), ("times", big * big)):
            self.assertEqual(step(PROGRAM, State((head, (), (integer(big), integer(big)))))[0].term, integer(result))
        states = self.run_of("(times (times 999999999999 999999999999) (times 999999999999 -999999999999))")
        self.assertEqual(states[-1].term, integer(-999999999999 ** 4))
        self.assertEqual(step(PROGRAM, State(("less", (), (integer(big), integer(big + 1)))))[0].term, ("flag", (), (True,)))

    def test_same(self):
        for text, result in (("(same 1 1)", "true"), ("(same 1 2)", "false"), ("(same 'a 'a)", "true"), ("(same 'a 'b)", "false"),
                             ("(same true true)", "true"), ("(same true false)", "false"), ("(same 1 true)", "false"),
                             ("(same 0 false)", "false"), ("(same 'a true)", "false"), ("(same [] [])", "true"),
                             ("(same [1 [true]] [1 [true]])", "true"), ("(same [1] [true])", "false"), ("(same [1 2] [2 1])", "false"),
                             ("(same [] 0)", "false"), ("(same [1] [1 1])", "false")):
            self.becomes(text, result)

    def test_same_of_what_is_not_plain(self):
        self.faults("plain", "(same one one)", "(same 1 one)", "(same one 1)", "(same (fun () 1) (fun () 1))", "(same [one] [one])",
                    "(same [[1 (fun () 1)]] 2)", "(same 1 [2 [one]])")
        state = state_of(PROGRAM, "(same #1 #1) where #1 = 2")
        self.assertEqual(step(PROGRAM, state)[0], State(fault("plain")))
        state = state_of(PROGRAM, "(same 1 [[#1]]) where #1 = 2")
        self.assertEqual(step(PROGRAM, state)[0], State(fault("plain")))

    def test_not(self):
        self.becomes("(not true)", "false")
        self.becomes("(not false)", "true")
        self.faults("kind", "(not 1)", "(not [])", "(not 'a)", "(not one)")

    def test_lists(self):
        self.becomes("(list)", "[]")
        self.becomes("(list 1 (do 2) one)", "(list 1 2 one)", "[1 2 one]")
        self.becomes("(first [1 2])", "1")
        self.becomes("(rest [1 2 3])", "[2 3]")
        self.becomes("(rest [1])", "[]")
        self.becomes("(none [])", "true")
        self.becomes("(none [[]])", "false")
        self.becomes("(put 1 [])", "[1]")
        self.becomes("(put [1] [2 3])", "[[1] 2 3]")
        self.faults("empty", "(first [])", "(rest [])")
        for head in ("first", "rest", "none"):
            self.faults("kind", f"({head} 1)", f"({head} 'a)", f"({head} true)", f"({head} one)", f"({head} (fun () 1))")
        self.faults("kind", "(put 1 2)", "(put [] 1)", "(put [] one)", "(put 1 'a)")

    def test_new_nodes_have_no_ink(self):
        ink = (("or", 1, (0, 2)),)
        for head, items in (("list", (integer(1),)), ("plus", (integer(1), integer(2))), ("cell", (integer(1),)),
                            ("put", (integer(1), ("made", (), ()))), ("none", (("made", (), ()),)), ("not", (integer(1),)),
                            ("less", (integer(1), integer(2))), ("same", (integer(1), integer(1))), ("rest", (("made", (), ()),))):
            self.assertEqual(step(PROGRAM, State((head, ink, items)))[0].term[1], ())

    def test_inks_of_values_come_along_and_those_of_names_go(self):
        ink = (("or", 1, (0, 2)),)
        value = ("fun", ink, (0, ("list", ink, ())))
        name = ("name", (("w", 0, (1,)),), (0,))
        body = ("seq", (("w", 0, ()),), (name, ("fun", (("w", 0, (2,)),), (1, ("list", (), (("name", ink, (1,)), ("name", ink, (0,))))))))
        filled = ("seq", body[1], (value, ("fun", (("w", 0, (2,)),), (1, ("list", (), (value, ("name", ink, (0,))))))))
        for tree in (("let", ink, (value, body)), ("call", ink, (("fun", ink, (1, body)), value)),
                     ("try", ink, (("raise", ink, (value,)), body))):
            self.assertEqual(step(PROGRAM, State(tree))[0].term, filled)
        for tree in (("do", ink, (value,)), ("seq", ink, (integer(1), value)), ("if", ink, (("flag", (), (True,)), value, integer(1))),
                     ("first", ink, (("made", (), (value,)),)), ("try", ink, (value, integer(1)))):
            self.assertEqual(step(PROGRAM, State(tree))[0].term, value)

    def test_items_of_made_are_closed(self):
        # The name in the item is that of its own `fun`.
        self.becomes("(let x 1 [(fun (y) y)])", "[(fun (a) a)]")
        self.becomes("(call (fun (x y) (list [(fun () 3)] x y)) 1 2)", "(list [(fun () 3)] 1 2)", "[[(fun () 3)] 1 2]")

    def test_from_left_to_right_values_first(self):
        self.becomes("(plus (do 1) (do 2))", "(plus 1 (do 2))", "(plus 1 2)", "3")
        self.becomes("(list 1 (do 2) 3 (do (do 4)))", "(list 1 2 3 (do (do 4)))", "(list 1 2 3 (do 4))", "(list 1 2 3 4)", "[1 2 3 4]")
        self.becomes("(call (do one))", "(call one)", "1")
        self.becomes("(call (do (fun (x) x)) (do 1))", "(call (fun (a) a) (do 1))", "(call (fun (a) a) 1)", "1")
        # Faults wait until all items are values.
        self.becomes("(call 1 (do 2))", "(call 1 2)", "(raise 'kind)")
        self.becomes("(plus true (raise 'a))", "(raise 'a)")
        self.becomes("(put (do 1) (do 2))", "(put 1 (do 2))", "(put 1 2)", "(raise 'kind)")

    def test_only_the_first_item_of_some(self):
        self.becomes("(let x (do 1) (do 2))", "(let a 1 (do 2))", "(do 2)", "2")
        self.becomes("(if (do true) (do 1) (raise 'no))", "(if true (do 1) (raise 'no))", "(do 1)", "1")
        self.becomes("(seq (do 1) (raise (do 'b)))", "(seq 1 (raise (do 'b)))", "(raise (do 'b))", "(raise 'b)")
        self.becomes("(try (do 1) x (raise 'no))", "(try 1 a (raise 'no))", "1")

    def test_never_under_a_binder(self):
        self.becomes("(fun () (do 1))")
        self.becomes("[(fun () (do 1))]")
        self.becomes("(do (fun (x) (do x)))", "(fun (a) (do a))")

    def test_raise(self):
        self.becomes("(raise 'a)")
        self.becomes("(raise (do 'a))", "(raise 'a)")
        self.becomes("(seq (raise 1) 2)", "(raise 1)")
        self.becomes("(list 1 (plus 2 (do (raise [3 one]))))", "(raise [3 one])")
        self.becomes("(raise (raise 'a))", "(raise 'a)")
        self.becomes("(let x (raise (list 1)) x)", "(let a (raise [1]) a)", "(raise [1])")

    def test_a_raise_goes_with_its_ink(self):
        ink = (("or", 1, (0, 2)),)
        node = ("raise", ink, (("fun", ink, (0, integer(1))),))
        self.assertEqual(step(PROGRAM, State(("list", ink, (integer(1), ("do", (), (node,))))))[0].term, node)

    def test_try(self):
        self.becomes("(try (raise 'a) x (list x x))", "(list 'a 'a)", "['a 'a]")
        self.becomes("(try (do (plus 1 (raise 2))) x x)", "2")
        self.becomes("(try (try (raise 1) x (raise (plus x 1))) y (list y))", "(try (raise (plus 1 1)) a (list a))",
                     "(try (raise 2) a (list a))", "(list 2)", "[2]")
        self.becomes("(list 1 (try (seq (raise 2) 3) x (do x)) (do 4))", "(list 1 (do 2) (do 4))", "(list 1 2 (do 4))",
                     "(list 1 2 4)", "[1 2 4]")
        self.becomes("(try (try 1 x (raise x)) y y)", "(try 1 a a)", "1")
        self.becomes("(try (plus 1 true) x x)", "(try (raise 'kind) a a)", "'kind")
        self.becomes("(try (first []) x x)", "(try (raise 'empty) a a)", "'empty")
        # The second item of a `try` is not inside of it any more.
        self.becomes("(try (raise 1) x (raise 2))", "(raise 2)")

    def test_cells(self):
        states = self.run_of("(let c (cell 1) (seq (set c 2) (plus (get c) (get c))))")
        self.assertEqual([(shown(state.term), [shown(value) for value in state.cells]) for state in states], [
            ("(let a (cell 1) (seq (set a 2) (plus (get a) (get a))))", []),
            ("(let a #1 (seq (set a 2) (plus (get a) (get a))))", ["1"]),
            ("(seq (set #1 2) (plus (get #1) (get #1)))", ["1"]),
            ("(seq 2 (plus (get #1) (get #1)))", ["2"]),
            ("(plus (get #1) (get #1))", ["2"]),
            ("(plus 2 (get #1))", ["2"]),
            ("(plus 2 2)", []),
            ("4", [])])

    def test_cells_numbered_by_first_coming(self):
        states = self.run_of("(list (cell 1) (cell 2))")
        self.assertEqual(shown(states[-1].term), "[#1 #2]")
        states = self.run_of("(let x (cell 1) (let y (cell 2) (seq (set x y) (list y x))))")
        self.assertEqual([shown(states[-1].term)] + [shown(value) for value in states[-1].cells], ["[#1 #2]", "2", "#1"])
        states = self.run_of("(seq (cell 1) (cell (cell 2)))")
        self.assertEqual([shown(states[-1].term)] + [shown(value) for value in states[-1].cells], ["#1", "#2", "2"])
        # The new cell stands ahead of the other one.
        state = step(PROGRAM, state_of(PROGRAM, "(list (cell 5) #1) where #1 = 4"))[0]
        self.assertEqual(state, State(read("(list #1 #2)"), (integer(5), integer(4))))

    def test_cells_that_are_dropped(self):
        state = step(PROGRAM, state_of(PROGRAM, "(seq #1 #2) where #1 = [#3] , #2 = 'b , #3 = 1"))[0]
        self.assertEqual(state, State(read("#1"), (read("'b"),)))
        state = step(PROGRAM, state_of(PROGRAM, "(set #1 5) where #1 = #2 , #2 = 1"))[0]
        self.assertEqual(state, State(integer(5)))
        state = step(PROGRAM, state_of(PROGRAM, "(list (do (raise #2)) #1) where #1 = 1 , #2 = 2"))[0]
        self.assertEqual(state, State(read("(raise #1)"), (integer(2),)))

    def test_cells_that_lead_to_themselves(self):
        state = step(PROGRAM, state_of(PROGRAM, "(seq (set #1 [#1]) #1) where #1 = 1"))[0]
        self.assertEqual(state, State(read("(seq [#1] #1)"), (read("[#1]"),)))

    def test_each_cell_has_its_value(self):
        state = state_of(PROGRAM, "(list (get #1) (get #2) (get #3) #1 #2 #3) where #1 = 'a , #2 = 'b , #3 = 'c")
        for _ in range(3):
            state = step(PROGRAM, state)[0]
        self.assertEqual(state.term, read("(list 'a 'b 'c #1 #2 #3)"))
        self.assertEqual(state.cells, (read("'a"), read("'b"), read("'c")))

    def test_get_and_set_of_what_is_no_cell(self):
        self.faults("kind", "(get 1)", "(get one)", "(get [])", "(get 'a)", "(set 1 2)", "(set one 1)", "(set [] 1)", "(set true 1)")

    def test_set_becomes_the_value(self):
        state = step(PROGRAM, state_of(PROGRAM, "(list (set #2 7) #1 #2) where #1 = 1 , #2 = 2"))[0]
        self.assertEqual(state, State(read("(list 7 #1 #2)"), (integer(1), integer(7))))

    def test_say(self):
        states = self.run_of("(seq (say 1) (seq (say ['a [true]]) (plus (say 2) 3)))")
        self.assertEqual(self.said, [integer(1), read("['a [true]]"), integer(2)])
        self.assertEqual(states[-1].term, integer(5))
        self.assertEqual(step(PROGRAM, State(read("(do (say 4))"))), (State(read("(do 4)")), integer(4)))
        self.assertIsNone(step(PROGRAM, State(read("(do (do 4))")))[1])

    def test_say_of_what_is_not_plain(self):
        self.faults("plain", "(say one)", "(say (fun () 1))", "(say [1 [one]])")
        state = state_of(PROGRAM, "(say #1) where #1 = 2")
        self.assertEqual(step(PROGRAM, state), (State(fault("plain")), None))

    def test_the_step_of_a_fault_is_a_step_like_others(self):
        self.becomes("(list (plus 1 true) 2)", "(list (raise 'kind) 2)", "(raise 'kind)")

    def test_the_end(self):
        for text, kind, end in (("1", "value", "1"), ("(fun () (do 1))", "value", "(fun () (do 1))"), ("[]", "value", "[]"),
                                ("one", "value", "one"), ("(raise 'a)", "raised", "'a"), ("(raise [1])", "raised", "[1]"),
                                ("(raise (fun (x) x))", "raised", "(fun (x) x)")):
            state = State(read(text))
            self.assertEqual(outcome(state), (kind, read(end)))
            self.assertEqual(outcome(state=state), (kind, read(end)))
            with self.assertRaises(AtEnd):
                step(PROGRAM, state)
            with self.assertRaises(AtEnd):
                step(program=PROGRAM, state=state)
        state = state_of(PROGRAM, "#1 where #1 = 2")
        self.assertEqual(outcome(state), ("value", ("ref", (), (1,))))
        for text in ("(do 1)", "(raise (do 1))", "(seq (raise 1) 2)", "(try (raise 1) x x)", "(try 1 x x)", "(list)", "(raise (raise 1))"):
            self.assertIsNone(outcome(State(read(text))))
            step(PROGRAM, State(read(text)))

    def test_by_name(self):
        self.assertEqual(step(state=State(read("(do 1)")), program=PROGRAM), (State(integer(1)), None))

    def test_a_program_is_asked_for_bodies_alone(self):
        class Bodies:
            book = BOOK
            functions = ("two",)

            def body(self, f):
                return {"two": (2, ("list", (), (("name", (), (0,)), ("name", (), (1,)))))}[f]

        state = State(("call", (), (("global", (), ("two",)), integer(1), integer(2))))
        self.assertEqual(step(Bodies(), state)[0].term, ("list", (), (integer(2), integer(1))))

    def test_bodies_have_the_ink_of_their_reading(self):
        program = Program(BOOK, "fun both (x y) => (or x y)\nrun 1")
        many, body = program.body("both")
        self.assertEqual(many, 2)
        self.assertEqual(body, ("let", (("or", 1, ()),), (("name", (), (1,)), ("if", (("or", 1, (1,)),), (
            ("name", (("or", 1, (1, 0)),), (0,)), ("name", (("or", 1, (1, 1)),), (0,)), ("do", (("or", 0, ()),), (("name", (), (1,)),)))))))
        state = step(program, State(("call", (), (("global", (), ("both",)), integer(1), integer(2)))))[0]
        self.assertEqual(state.term, read("(or 1 2)"))
        self.assertEqual(PROGRAM.body("twice")[0], 1)
        with self.assertRaises(KeyError):
            program.body("twin")

    def test_random_runs(self):
        ends = 0
        for book in samples.books():
            program = Program(book, "fun ff (x) => (list x (say 1))\nfun gg () => (raise (cell 1))\nrun 1")
            for seed in range(40):
                maker = samples.Maker(book, 3000 + seed, program.functions)
                many = seed % 3
                term = reading(book, maker.tree(3 + seed % 3, has_cells=many))
                state = settled(term, tuple(reading(book, maker.value(3, has_cells=many)) for _ in range(many)))
                for _ in range(40):
                    expected = next_by_the_table(program, state)
                    if expected is None:
                        self.assertRaises(AtEnd, step, program, state)
                        ends += 1
                        break
                    state, said = step(program, state)
                    self.assertEqual((state.term, state.cells, said), expected)
        self.assertGreater(ends, 100)


if __name__ == "__main__":
    unittest.main()
