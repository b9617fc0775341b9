"""A slow model of section 12 of the document, to compare the package with, and trees that fit for it.

Kinds are found of readings alone: each demand of each node is an equation, and
the equations are solved anew for each question. Kinds are tuples of a head and
kinds, or unknowns: strings.
"""

import itertools

from tests.model import Model, Node

NUM, WORD, FLAG = ("num",), ("word",), ("flag",)
IMPOSSIBLE = (NUM, WORD)


def solved(equations):
    """What the unknowns are, or None if the equations cannot be met together."""
    known = {}
    return known if all(unified(one, other, known) for one, other in equations) else None


def walk(kind, known):
    while isinstance(kind, str) and kind in known:
        kind = known[kind]
    return kind


def occurs(name, kind, known):
    kind = walk(kind, known)
    return kind == name if isinstance(kind, str) else any(occurs(name, inner, known) for inner in kind[1:])


def unified(one, other, known):
    one, other = walk(one, known), walk(other, known)
    if one == other:
        return True
    if isinstance(other, str):
        one, other = other, one
    if isinstance(one, str):
        if occurs(one, other, known):
            return False
        known[one] = other
        return True
    if one[0] != other[0] or len(one) != len(other):
        return False
    return all(unified(a, b, known) for a, b in zip(one[1:], other[1:]))


def told(kind, known):
    kind = walk(kind, known)
    return kind if isinstance(kind, str) else (kind[0], *(told(inner, known) for inner in kind[1:]))


def fresh(kind, names, numbers):
    if isinstance(kind, str):
        if kind not in names:
            names[kind] = f"u{next(numbers)}"
        return names[kind]
    return (kind[0], *(fresh(inner, names, numbers) for inner in kind[1:]))


def written(kind, names):
    """The text of a kind, by the words of [28]."""
    if isinstance(kind, str):
        if kind not in names:
            letters = "abcdefghijklmnopqrstuvwxyz"
            at = len(names)
            names[kind] = letters[at] if at < 26 else letters[at // 26 - 1] + letters[at % 26]
        return names[kind]
    parts = [written(inner, names) for inner in kind[1:]]
    parts = [f"({part})" if " " in part else part for part in parts]
    if kind[0] == "fun":
        return f"fun ({' '.join(parts[:-1])}) {parts[-1]}"
    return " ".join([kind[0]] + parts)


class Kinds(Model):
    """Kinds over a program."""

    def __init__(self, program):
        super().__init__(program.book)
        self.program = program
        self.equations = []
        self.holes = []
        self.mono = {}
        self.schemes = {}
        names = program.functions + program.book.functions
        self.called = {name: {node[2][0] for node in all_nodes(program.body(name)[1]) if node[0] == "global"} for name in names}

    def unknown(self):
        return f"u{next(self.numbers)}"

    def reach(self, name):
        found, waiting = {name}, [name]
        while waiting:
            for other in self.called[waiting.pop()] - found:
                found.add(other)
                waiting.append(other)
        return found

    def scheme(self, name):
        """The kind of a function, or None if it does not fit."""
        if name not in self.schemes:
            group = {other for other in self.reach(name) if name in self.reach(other)}
            for other in self.reach(name) - group:
                self.scheme(other)
            model = Kinds.__new__(Kinds)
            model.__dict__.update(self.__dict__, equations=[], cells={})
            model.mono = {}
            for other in group:
                many = self.program.body(other)[0]
                model.mono[other] = ("fun", *(self.unknown() for _ in range(many + 1)))
            for other in group:
                many, body = self.program.body(other)
                around = [self.unknown() for _ in range(many)]
                env = dict(zip(around, model.mono[other][1:]))
                kind = model.kind(self.marked(body, around[::-1]), env)
                model.equations.append(((), kind, model.mono[other][-1]))
            known = solved([equation[1:] for equation in model.equations])
            for other in group:
                self.schemes[other] = None if known is None else told(model.mono[other], known)
        return self.schemes[name]

    def marked(self, tree, around=()):
        """The reading of a tree; each node knows the path of the node, in the tree, that wrote it."""
        node = self.named(tree, list(around))
        mark(node, tree, ())
        return self.read_marked(node, None)

    def read_marked(self, node, origin):
        origin = getattr(node, "origin", origin)
        while node.head == "use":
            node = self.template(self.taken(*node.plain), node.ink, dict(node.binders), node.kids)
        kids = [self.read_marked(kid, origin) for kid in node.kids]
        read = Node(node.head, node.ink, node.plain, kids, node.binders)
        read.origin = origin
        return read

    def kind(self, node, env):
        """The kind of a node of a reading; what it demands is added to the equations."""
        kind, head = self.unknown(), node.head
        kids = node.kids
        demand = lambda one, other: self.equations.append((node.origin, one, other))
        inner = lambda at, more=(): self.kind(kids[at], {**env, **dict(zip(node.binders, more))})
        if head in ("int", "quote", "flag"):
            demand(kind, {"int": NUM, "quote": WORD, "flag": FLAG}[head])
        elif head == "global":
            name = node.plain[0]
            scheme = self.mono[name] if name in self.mono else self.scheme(name)
            if scheme is None:
                demand(*IMPOSSIBLE)
            else:
                demand(kind, scheme if name in self.mono else fresh(scheme, {}, self.numbers))
        elif head == "ref":
            demand(kind, ("cell", self.cells[node.plain[0]]))
        elif head == "name":
            demand(kind, env[node.plain[0]])
        elif head == "hole":
            self.holes.append((node.plain[0], kind, [env[name] for name in node.scope]))
        elif head == "fun":
            parameters = [self.unknown() for _ in node.binders]
            demand(kind, ("fun", *parameters, inner(0, parameters)))
        elif head == "let":
            bound = self.unknown()
            demand(inner(0), bound)
            demand(kind, inner(1, [bound]))
        elif head == "try":
            demand(kind, inner(0))
            demand(kind, inner(1, [WORD]))
        else:
            self.core(head, kind, [inner(at) for at in range(len(kids))], demand)
        return kind

    def core(self, head, kind, items, demand):
        if head == "call":
            demand(items[0], ("fun", *items[1:], kind))
        elif head in ("list", "made"):
            item = self.unknown()
            demand(kind, ("list", item))
            for one in items:
                demand(one, item)
        elif head in ("do", "say", "seq"):
            demand(kind, items[-1])
        elif head == "if":
            demand(items[0], FLAG)
            demand(kind, items[1])
            demand(kind, items[2])
        elif head in ("plus", "minus", "times", "less"):
            for one in items:
                demand(one, NUM)
            demand(kind, FLAG if head == "less" else NUM)
        elif head == "same":
            demand(kind, FLAG)
            demand(*items)
        elif head == "not":
            demand(kind, FLAG)
            demand(items[0], FLAG)
        elif head in ("first", "rest", "none"):
            item = self.unknown()
            demand(items[0], ("list", item))
            demand(kind, {"first": item, "rest": ("list", item), "none": FLAG}[head])
        elif head == "put":
            demand(items[1], ("list", items[0]))
            demand(kind, items[1])
        elif head == "cell":
            demand(kind, ("cell", items[0]))
        elif head in ("get", "set"):
            demand(items[0], ("cell", kind))
            if head == "set":
                demand(items[1], kind)
        elif head == "raise":
            demand(items[0], WORD)
        else:
            raise ValueError(head)

    def of_tree(self, tree):
        """The text of the kind of a tree; or the path of the first node whose demands cannot be met."""
        self.equations = []
        kind = self.kind(self.marked(tree), {})
        ready = []
        for path in preorder(tree, ()):
            ready += [equation[1:] for equation in self.equations if equation[0] == path]
            known = solved(ready)
            if known is None:
                return path
        return written(told(kind, known), {})

    def of_state(self, state):
        self.equations = []
        self.cells = {at + 1: self.unknown() for at in range(len(state.cells))}
        kind = self.kind(self.marked(state.term), {})
        for at, value in enumerate(state.cells):
            self.equations.append(((), self.kind(self.marked(value), {}), self.cells[at + 1]))
        known = solved([equation[1:] for equation in self.equations])
        return None if known is None else written(told(kind, known), {})

    def of_function(self, name):
        scheme = self.scheme(name)
        return None if scheme is None else written(scheme, {})

    def rule(self, word, n):
        """The kinds of a use's places and its own one, or None if the template does not fit."""
        use = Node("use", (), (word, n))
        arguments = self.taken(word, n).arguments
        use.binders = [(at, self.new()) for at, (_, binds) in enumerate(arguments) if binds]
        names = dict(use.binders)
        for number, scope in enumerate(self.book.scopes(word, n)):
            hole = Node("hole", (), (number,))
            hole.scope = [names[at] for at in scope]
            use.kids.append(hole)
        self.equations, self.holes = [], []
        read = self.read_holes(use)
        kind = self.kind(read, {})
        known = solved([equation[1:] for equation in self.equations])
        if known is None:
            return None
        found = [[] for _ in use.kids]
        for number, wanted, binders in self.holes:
            found[number].append((told(wanted, known), [told(one, known) for one in binders]))
        return found, told(kind, known)

    def read_holes(self, node):
        while node.head == "use":
            node = self.template(self.taken(*node.plain), node.ink, dict(node.binders), node.kids)
        read = Node(node.head, node.ink, node.plain, [self.read_holes(kid) for kid in node.kids], node.binders)
        read.origin = ()
        if node.head == "hole":
            read.scope = node.scope
        return read

    def of_rule(self, word, n):
        found = self.rule(word, n)
        if found is None:
            return None
        places, whole = found
        names = {}
        places = tuple(tuple((written(kind, names), tuple(written(one, names) for one in binders)) for kind, binders in some)
                       for some in places)
        return places, written(whole, names)


def all_nodes(tree):
    yield tree
    for item in tree[2]:
        if isinstance(item, tuple):
            yield from all_nodes(item)


def preorder(tree, path):
    yield path
    for at, item in enumerate(tree[2]):
        if isinstance(item, tuple):
            yield from preorder(item, path + (at,))


def mark(node, tree, path):
    node.origin = path
    trees = [(at, item) for at, item in enumerate(tree[2]) if isinstance(item, tuple)]
    for kid, (at, item) in zip(node.kids, trees):
        mark(kid, item, path + (at,))


class Fitting:
    """Makes random trees that fit, over a program."""

    def __init__(self, program, random, has_cells=True):
        self.program, self.random, self.has_cells = program, random, has_cells
        self.model = Kinds(program)
        book = program.book
        self.rules = []
        for word in book.words:
            for n in range(7):
                if book.rule(word, n) is not None:
                    found = self.model.rule(word, n)
                    if found is not None:
                        self.rules.append((word, n, *found))
        self.functions = [(name, self.model.scheme(name)) for name in program.functions + book.functions]

    def some_kind(self, deep=2):
        kind = self.random.randrange(7 if deep else 3)
        if kind < 3:
            return (NUM, WORD, FLAG)[kind]
        if kind == 3 and self.has_cells:
            return ("cell", self.some_kind(deep - 1))
        if kind == 4:
            return ("fun", *(self.some_kind(deep - 1) for _ in range(self.random.randrange(1, 4))))
        return ("list", self.some_kind(deep - 1))

    def tree(self, kind, deep, env=()):
        """A tree of a kind; env has the kinds of the names around it, the innermost one first."""
        for _ in range(30):
            found = self.attempt(kind, deep, env)
            if found is not None:
                return found
        return self.plain(kind, env)

    def plain(self, kind, env):
        """A short tree of a kind."""
        names = [at for at, one in enumerate(env) if one == kind]
        if names and self.random.random() < 0.7:
            return ("name", (), (self.random.choice(names),))
        if kind == NUM:
            return ("int", (), (self.random.randrange(-3, 9),))
        if kind == WORD:
            return ("quote", (), (self.random.choice(("red", "blue")),))
        if kind == FLAG:
            return ("flag", (), (self.random.random() < 0.5,))
        if kind[0] == "list":
            return ("made", (), ())
        if kind[0] == "cell":
            return ("cell", (), (self.plain(kind[1], env),))
        return ("fun", (), (len(kind) - 2, self.plain(kind[-1], kind[1:-1][::-1] + env)))

    def attempt(self, kind, deep, env):
        choose = self.random
        if deep <= 1:
            return self.plain(kind, env)
        make = lambda one, *more: self.tree(one, deep - 1, tuple(more) + env)
        other = self.some_kind()
        turn = choose.randrange(16)
        if turn == 0:
            return (choose.choice(("do", "say")) if kind in (NUM, WORD, FLAG) else "do", (), (make(kind),))
        if turn == 1:
            return ("seq", (), (make(other), make(kind)))
        if turn == 2:
            return ("let", (), (make(other), make(kind, other)))
        if turn == 3:
            return ("if", (), (make(FLAG), make(kind), make(kind)))
        if turn == 4:
            return ("try", (), (make(kind), make(kind, WORD)))
        if turn == 5:
            return ("raise", (), (make(WORD),)) if choose.random() < 0.2 else None
        if turn == 6:
            return ("first", (), (("list", (), tuple(make(kind) for _ in range(choose.randrange(1, 3)))),))
        if turn == 7 and self.has_cells:
            if choose.random() < 0.5:
                return ("get", (), (make(("cell", kind)),))
            return ("set", (), (make(("cell", kind)), make(kind)))
        if turn == 8:
            parameters = [self.some_kind(1) for _ in range(choose.randrange(3))]
            return ("call", (), (make(("fun", *parameters, kind)), *(make(one) for one in parameters)))
        if turn == 9:
            return self.function(kind, deep, env)
        if turn < 13:
            return self.use(kind, deep, env)
        return self.by_kind(kind, make)

    def by_kind(self, kind, make):
        choose = self.random
        if kind == NUM:
            return (choose.choice(("plus", "minus", "times")), (), (make(NUM), make(NUM)))
        if kind == FLAG:
            other = self.some_kind(1) if choose.random() < 0.3 else NUM
            return choose.choice([("less", (), (make(NUM), make(NUM))), ("same", (), (make(other), make(other))),
                                  ("not", (), (make(FLAG),)), ("none", (), (make(("list", other)),))])
        if kind[0] == "list":
            item = kind[1]
            return choose.choice([("list", (), tuple(make(item) for _ in range(choose.randrange(3)))),
                                  ("put", (), (make(item), make(kind))), ("rest", (), (make(kind),))])
        if kind[0] == "cell":
            return ("cell", (), (make(kind[1]),))
        if kind[0] == "fun":
            return ("fun", (), (len(kind) - 2, make(kind[-1], *kind[1:-1][::-1])))
        return None

    def function(self, kind, deep, env):
        name, scheme = self.random.choice(self.functions or [(None, None)])
        known = {}
        if scheme is None or not unified(scheme[-1], kind, known):
            return None
        parts = [self.ground(told(one, known)) for one in scheme[1:-1]]
        return ("call", (), (("global", (), (name,)), *(self.tree(one, deep - 1, env) for one in parts)))

    def use(self, kind, deep, env):
        word, n, places, whole = self.random.choice(self.rules or [(None,) * 4])
        known = {}
        if word is None or not unified(whole, kind, known):
            return None
        for some in places:
            for one, binders in some[1:]:
                for this, that in zip((one, *binders), (some[0][0], *some[0][1])):
                    if not unified(this, that, known):
                        return None
        items = []
        names = {}
        for some in places:
            one, *binders = [self.ground(told(part, known), names) for part in (some[0][0], *some[0][1])]
            items.append(self.tree(one, deep - 1, tuple(binders[::-1]) + env))
        return ("use", (), (word, n, *items))

    def ground(self, kind, names=None):
        """A kind without unknowns."""
        names = {} if names is None else names
        if isinstance(kind, str):
            if kind not in names:
                names[kind] = self.some_kind(1)
            return names[kind]
        return (kind[0], *(self.ground(inner, names) for inner in kind[1:]))
