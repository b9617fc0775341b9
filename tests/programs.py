"""Programs for the tests of runs."""

from saidanew.books import Book
from saidanew.programs import Program
from tests.samples import FOR, OR

# Name arguments, rests, several numbers of arguments, clear places, places that stand several times.
WORDS = OR + "\n" + FOR + """
word forboth
rule !x !y a b c => (do *(for x a *(for y b c)))
word thunk
rule a => (fun () a)
word while
rule a b => (let go (cell (thunk false)) (seq (set go (fun () (if a (seq b *(call (get go))) false))) *(call (get go))))
word twice
rule a => (list a a)
rule a b => (seq a *(twice b))
word unless
rule a b c => (if *(not a) b c)
word safe
rule a b => (try a e (seq (say e) b))
word sum
rule ..r => (call total (list ..r))
word step
rule a b => (plus (times 2 a) *(do b))
fun total (x) => (if (none x) 0 (plus (first x) (call total (rest x))))
fun even (n) => (if (less n 1) true (call odd (minus n 1)))
fun odd (n) => (if (less n 1) false (call even (minus n 1)))"""
BOOK = Book(WORDS)

LINES = (
    "(or (less 2 1) (none []) true)",
    "(or (or false (less 3 2)) (say false) (or (not false)))",
    "(for x (step 2 3) (for y (step x x) (plus x (times y y))))",
    "(forboth x y 1 2 (list x y (sum x y 3)))",
    "(let c (cell 0) (seq (while (less (get c) 3) (set c (plus 1 (say (get c))))) (get c)))",
    "(twice (sum 1 2) (sum 3 4))",
    "(list (safe (raise 'red) 1) (safe (plus 1 true) 2) (safe (first []) 3) (safe (say (fun () 1)) 4))",
    "(unless (call even 4) 'odd (unless (call odd 4) 'even 'nil))",
    "(call (for x 3 (fun (y) (plus x y))) (sum 4 5))",
    "(let f (thunk (or (say true) false)) (list (call f) (call f)))",
    "(let k (for x (cell 1) (fun (y) (seq (set x (plus (get x) y)) (get x)))) (list (call k 1) (call k 2) k))",
    "(let c (cell (fun () 1)) (seq (set c (fun () (list c (get c)))) (call (get c))))",
    "(let c (cell []) (seq (set c (put c [])) (list (get c) (cell c) c)))",
    "(fun (x) (or x (list x)))",
    "(say (list 1 'a (or (say (less 1 2))) []))",
    "(seq (say 'a) (or (raise (or 'blue)) (say 'never)))",
    "(or (try (sum 1 (raise 'red)) x (same x 'red)) false)",
    "(try (or (plus 1 (raise 'red))) x x)",
    "(safe (or (or (raise 'red) true) true) (or (say true)))",
    "(if (or (none (rest (list 1)))) (call (fun (x x) (plus x x)) 1 2) 0)",
    "(call (call (fun (f) (fun (x) (call f (call f x)))) (fun (x) (step x 1))) 5)",
    "(set #2 (plus (get #1) (sum 1 2))) where #1 = 5 , #2 = (fun () #2)",
    "(call (get #1) 6) where #1 = (fun (n) (if (less n 1) 'done (call (get #1) (minus n 1))))",
    "(let a 1 (let b (plus a 1) (let a (plus a b) (fun (c) (list a b c)))))",
    "(call total 1)",
    "(list (call even) 1)",
    "(call 7 8)",
    "(first (rest (rest (put 1 (put 2 [])))))",
    "(call f (cell 3) 4)",
    "(list (call g 3) (call even 3))",
    "[(thunk (or true false)) 2]",
    "(do (do (do (raise (do 'red)))))",
    "(try (list 1 (try (raise 'a) x (raise (seq (say x) 'b)))) y (list y))",
    "(same (list 1 'a true []) [1 'a true []])",
    "(let x (cell 1) (let y (cell x) (seq (set x 2) (get (get y)))))",
    "(call (first (list (fun (x) (list x x)) total)) (cell 'a))",
    "(twice (plus 1 (plus 2 3)))",
    "(or (twice (minus 1 2)) 1)",
    "(or (list (twice (or (plus 1 2)))) (do 1))",
    "(twice (or (set #1 2))) where #1 = 1",
    "(twice (set #1 (plus 1 (get #1)))) where #1 = 5",
    "(or (set #1 (less 1 (get #1))) 5) where #1 = 1",
    "(for x (for y (cell (or 1)) (list y (get y))) (put x x))",
    "(safe (list (or (list (set #2 #1)) 1)) 2) where #1 = 1 , #2 = #2",
)
OWN = """fun f (c x) => (seq (set c (plus (get c) x)) (if (less x 1) (get c) (call f c (minus x 1))))
fun g (n) => (if (less n 1) [] (put n (call h (minus n 1))))
fun h (n) => (for x (sum n 1) (call g n))
"""


def programs():
    return [Program(BOOK, OWN + "run " + line) for line in LINES]


def one(line):
    """The program with this line."""
    return Program(BOOK, OWN + "run " + line)
