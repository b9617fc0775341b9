"""A slow model of sections 4 to 7 of the document, to compare the package with.

Binders have names here that are all different: templates are put in by these
names, and the numbers in trees are counted only at the end. Of the package it
uses nothing but `book.text` and `book.scopes`.
"""

import itertools

LITERALS = ("int", "quote", "flag", "global", "made", "ref")
HEADS = """call if do not first rest none cell get raise say seq plus minus times less same put set list fun let
    try""".split()


class Node:
    """A node with named binders; those of a use are pairs of the index of an argument and a name."""

    def __init__(self, head, ink=(), plain=(), kids=(), binders=(), scopes=None, has_rest=False):
        self.head, self.ink, self.plain, self.kids = head, ink, tuple(plain), list(kids)
        self.binders, self.scopes, self.has_rest = list(binders), scopes, has_rest

    def inner(self, number):
        """The names that the node binds around one of its trees, the innermost one first."""
        if self.head == "use":
            names = dict(self.binders)
            return [names[index] for index in self.scopes[number]][::-1]
        if self.head == "fun" or self.head in ("let", "try") and number == 1:
            return self.binders[::-1]
        return []


class Rule:
    """A rule of the text of a book."""

    def __init__(self, word, index, row):
        arguments, template = row[5:].split(" => ", 1)
        tokens = arguments.split(" ")
        self.word, self.index = word, index
        self.rest = tokens.pop()[2:] if tokens[-1].startswith("..") else None
        self.arguments = [(token.lstrip("!"), token.startswith("!")) for token in tokens]
        self.template, after = written(template.replace("(", " ( ").replace(")", " ) ").split())
        assert not after


def written(tokens):
    """What is written at the head of tokens: a token or a list, in a pair with True if it is clear."""
    first, *after = tokens
    if first == "*":
        (thing, _), after = written(after)
        return (thing, True), after
    if first != "(":
        return (first, False), after
    things = []
    while after[0] != ")":
        thing, after = written(after)
        things.append(thing)
    return (things, False), after[1:]


class Model:
    """Trees over a book by the words of the document."""

    def __init__(self, book):
        self.book = book
        self.numbers = itertools.count()
        self.rules, self.functions = [], []
        for row in book.text.split("\n"):
            if row.startswith("word "):
                word, index = row[5:], 0
            elif row.startswith("rule "):
                self.rules.append(Rule(word, index, row))
                index += 1
            elif row:
                self.functions.append(row.split(" ")[1])

    def taken(self, word, n):
        """The rule that a use takes."""
        for rule in self.rules:
            more = n - len(rule.arguments)
            if rule.word == word and (more == 0 or rule.rest and 0 < more <= 6):
                return rule

    def new(self):
        return f"new{next(self.numbers)}"

    def binders(self, tree):
        """How many binders are around each item of a tree with numbers."""
        head, _, items = tree
        if head == "fun":
            return (0, items[0])
        if head in ("let", "try"):
            return (0, 1)
        if head == "use":
            return (0, 0) + tuple(len(scope) for scope in self.book.scopes(*items[:2]))
        return (0,) * len(items)

    def named(self, tree, around):
        """The node of a tree below binders with these names, the innermost one first."""
        head, ink, items = tree
        if head == "name":
            return Node("name", ink, [around[items[0]]])
        node = Node(head, ink, [item for item in items if not isinstance(item, tuple)])
        trees = items[len(node.plain):]
        if head == "use":
            node.scopes = self.book.scopes(*node.plain)
            arguments = self.taken(*node.plain).arguments
            node.binders = [(at, self.new()) for at, (_, binds) in enumerate(arguments) if binds]
        elif head in ("fun", "let", "try"):
            node.binders = [self.new() for _ in range(items[0] if head == "fun" else 1)]
        node.kids = [self.named(kid, node.inner(at) + around) for at, kid in enumerate(trees)]
        return node

    def numbered(self, node, around, places=None, path=()):
        """The tree of a node; of nodes `argument` the path and the names around are put into a list."""
        if node.head == "argument":
            places.append((node.plain[0], path, around))
        if node.head == "name":
            return ("name", node.ink, (around.index(node.plain[0]),))
        kids = []
        for at, kid in enumerate(node.kids):
            kids.append(self.numbered(kid, node.inner(at) + around, places, path + (at + len(node.plain),)))
        return (node.head, node.ink, node.plain + tuple(kids))

    def template(self, rule, ink, names, trees):
        """The node of a template for a use with this ink, these names and these expression arguments."""
        return Filler(self, rule, ink, names, trees).node(*rule.template, (), {})

    def read(self, node):
        while node.head == "use":
            node = self.template(self.taken(*node.plain), node.ink, dict(node.binders), node.kids)
        return Node(node.head, node.ink, node.plain, [self.read(kid) for kid in node.kids], node.binders)

    def reading(self, tree, free=0):
        around = [f"free{at}" for at in range(free)]
        return self.numbered(self.read(self.named(tree, around)), around)

    def turned(self, tree, free=0):
        items = []
        for item, over in zip(tree[2], self.binders(tree)):
            items.append(self.turned(item, free + over) if isinstance(item, tuple) else item)
        tree = (tree[0], tree[1], tuple(items))
        if tree[1] and tree[1][-1][2] == ():
            for rule in self.rules:
                if (rule.word, rule.index) == tree[1][-1][:2]:
                    held = Held(self, rule, tree, free)
                    if not held.parts() and not held.wrong() and held.is_taken():
                        return held.use()
        return tree

    def moved(self, tree, names, wanted, depth=0):
        """A tree below some names as it stands below others, or None if it refers to a name that is not there."""
        head, ink, items = tree
        if head == "name" and items[0] >= depth:
            name = names[items[0] - depth]
            return ("name", ink, (wanted.index(name) + depth,)) if name in wanted else None
        found = []
        for item, over in zip(items, self.binders(tree)):
            found.append(self.moved(item, names, wanted, depth + over) if isinstance(item, tuple) else item)
        return None if None in found else (head, ink, tuple(found))

    def papers(self, tree):
        """All papers of a closed core tree."""
        back = self.turned(tree)
        found = []
        for path, node, free in nodes(self, back):
            if node[1]:
                word, index, mark = node[1][-1]
                rules = [rule for rule in self.rules if (rule.word, rule.index) == (word, index)]
                if mark != ():
                    found.append(("lost", path))
                elif not rules:
                    found.append(("count", path))
                else:
                    found.extend(self.papers_at(Held(self, rules[0], node, free), path))
        return found

    def papers_at(self, held, path):
        if held.parts():
            return [("part", path, q) for q in held.parts()]
        found = [(kind, path, number) for kind, number in held.wrong()]
        return found if held.is_taken() else found + [("count", path)]


class Filler:
    """Puts names and trees into what is written as a template."""

    def __init__(self, model, rule, ink, names, trees):
        self.model, self.rule, self.ink = model, rule, ink
        self.renamed = {name: names[at] for at, (name, binds) in enumerate(rule.arguments) if binds}
        expressions = [name for name, binds in rule.arguments if not binds]
        self.put = dict(zip(expressions, trees))
        self.rest = list(trees[len(expressions):])

    def binder(self, name):
        return self.renamed.get(name) or self.model.new()

    def node(self, thing, is_clear, path, known):
        if isinstance(thing, str):
            return self.leaf(thing, path, known)
        (head, _), *parts = thing
        ink = self.ink + (() if is_clear else ((self.rule.word, self.rule.index, path),))
        if head not in HEADS:
            return self.use(head, parts, ink, path, known)
        node = Node(head, ink)
        own = []
        if head == "fun":
            own = [name for name, _ in parts[0][0]]
            node.plain = (len(own),)
        elif head == "let":
            own = [parts.pop(0)[0]]
        elif head == "try":
            own = [parts.pop(1)[0]]
        node.binders = [self.binder(name) for name in own]
        inner = known | dict(zip(own, node.binders))
        parts = parts[1:] if head == "fun" else parts
        for at, part in enumerate(parts):
            sees_own = head == "fun" or at == 1
            self.add(node, part, path + (len(node.plain) + at,), inner if sees_own else known)
        return node

    def use(self, word, parts, ink, path, known):
        has_rest = isinstance(parts[-1][0], str) and parts[-1][0].startswith("..") if parts else False
        n = len(parts) - 1 + len(self.rest) if has_rest else len(parts)
        node = Node("use", ink, (word, n))
        if has_rest:
            node.scopes = [()] * n
            for at, part in enumerate(parts):
                self.add(node, part, path + (2 + at,), known)
            return node
        node.scopes = self.model.book.scopes(word, n)
        binds = [binds for _, binds in self.model.taken(word, n).arguments] + [False] * n
        node.binders = [(at, self.binder(part[0])) for at, part in enumerate(parts) if binds[at]]
        names = dict(node.binders)
        expressions = [part for at, part in enumerate(parts) if not binds[at]]
        for at, part in enumerate(expressions):
            inner = {parts[index][0]: names[index] for index in node.scopes[at]}
            self.add(node, part, path + (2 + at,), known | inner)
        return node

    def add(self, node, part, path, known):
        if isinstance(part[0], str) and part[0].startswith(".."):
            node.has_rest = True
            node.kids.extend(self.rest)
        else:
            node.kids.append(self.node(*part, path, known))

    def leaf(self, token, path, known):
        if token in known:
            return Node("name", self.ink + ((self.rule.word, self.rule.index, path),), [known[token]])
        if token in self.put:
            return self.put[token]
        if token in ("true", "false"):
            return Node("flag", (), [token == "true"])
        if token.startswith("'"):
            return Node("quote", (), [token[1:]])
        if token in self.model.functions:
            return Node("global", (), [token])
        return Node("int", (), [int(token)])


class Held:
    """A tree, its items turned back, held against the template of a rule."""

    def __init__(self, model, rule, tree, free):
        self.model, self.rule, self.tree = model, rule, tree
        self.around = [f"free{at}" for at in range(free)]
        self.ink = tree[1][:-1]
        self.fill(0)
        if rule.rest:
            path, ahead = self.holder(self.node)
            held = at(tree, path)
            self.fill(0 if held is None else max(0, len(held[2]) - ahead))

    def fill(self, length):
        arguments = self.rule.arguments
        self.names = {index: self.model.new() for index, (_, binds) in enumerate(arguments) if binds}
        self.n = len(arguments) + length
        many = self.n - len(self.names)
        trees = [Node("argument", (), [number]) for number in range(many)]
        self.node = self.model.template(self.rule, self.ink, self.names, trees)
        self.places = []
        self.wanted = self.model.numbered(self.node, self.around, self.places)
        self.scopes = {}
        for number, _, around in self.places:
            # All places are in the same scopes; another rule may be taken, so that the book tells others.
            self.scopes[number] = [index for index, name in self.names.items() if name in around]

    def holder(self, node, path=()):
        """The path of the node at the end of which the rest stands, and how many items it has without it."""
        if node.has_rest:
            return path, len(node.plain) + len(node.kids)
        for number, kid in enumerate(node.kids):
            found = self.holder(kid, path + (len(node.plain) + number,))
            if found is not None:
                return found
        return None

    def parts(self):
        found = []
        for path, node, _ in nodes(None, self.wanted):
            if node[0] != "argument":
                held = at(self.tree, path)
                if held is None or held[:2] != node[:2] or len(held[2]) != len(node[2]):
                    found.append(path)
                elif any(item != other for item, other in zip(held[2], node[2]) if not isinstance(other, tuple)):
                    found.append(path)
        return found

    def arguments(self):
        """For each argument what stands at its places, as in the use."""
        found = {number: [] for number in sorted(self.scopes)}
        for number, path, names in self.places:
            inner = [self.names[index] for index in self.scopes[number]][::-1] + self.around
            found[number].append(self.model.moved(at(self.tree, path), names, inner))
        return found

    def wrong(self):
        found = []
        for number, trees in self.arguments().items():
            if None in trees:
                found.append(("own", number))
            if len({tree for tree in trees if tree is not None}) > 1:
                found.append(("unlike", number))
        return found

    def is_taken(self):
        return self.model.taken(self.rule.word, self.n) is self.rule

    def use(self):
        return ("use", self.ink, (self.rule.word, self.n, *[trees[0] for trees in self.arguments().values()]))


def nodes(model, tree, path=(), free=0):
    """All nodes in preorder, with their paths, and how many binders are around each of them."""
    yield path, tree, free
    binders = model.binders(tree) if model else (0,) * len(tree[2])
    for index, item in enumerate(tree[2]):
        if isinstance(item, tuple):
            yield from nodes(model, item, path + (index,), free + binders[index])


def at(tree, path):
    """The tree at a path, or None."""
    for index in path:
        if index >= len(tree[2]) or not isinstance(tree[2][index], tuple):
            return None
        tree = tree[2][index]
    return tree
