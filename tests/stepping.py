"""The steps of [20] once more, written down by recursion, to compare the package with."""

LITERALS = ("int", "quote", "flag", "global", "made", "ref")


class Raised(Exception):
    """A raise goes outwards."""

    def __init__(self, node):
        super().__init__()
        self.node = node


def is_value(tree):
    return tree[0] == "fun" or tree[0] in LITERALS


def is_plain(tree):
    return tree[0] in ("int", "quote", "flag") or tree[0] == "made" and all(is_plain(item) for item in tree[2])


def fault(word):
    return ("raise", (), (("quote", (), (word,)),))


def put_in(tree, values, depth=0):
    """Values in the place of the names around a tree, the last one for the innermost."""
    head, ink, items = tree
    if head == "name":
        return tree if items[0] < depth else values[len(values) - 1 - (items[0] - depth)]
    if head in LITERALS:
        return tree
    over = [items[0] if head == "fun" else head in ("let", "try") and at == 1 for at in range(len(items))]
    return (head, ink, tuple(put_in(item, values, depth + over[at]) if isinstance(item, tuple) else item
                             for at, item in enumerate(items)))


class Work:
    """One step of a term."""

    def __init__(self, program, cells):
        self.program, self.cells, self.said = program, list(cells), None

    def step(self, tree):
        head, ink, items = tree
        for at in range(1 if head in ("let", "if", "seq", "try") else len(items)):
            if not is_value(items[at]):
                try:
                    return (head, ink, items[:at] + (self.step(items[at]),) + items[at + 1:])
                except Raised as error:
                    if head != "try":
                        raise
                    return put_in(items[1], error.node[2])
        if head == "raise":
            raise Raised(tree)
        return self.own(head, items)

    def own(self, head, items):
        first = items[0] if items else None
        kinds = [item[0] for item in items]
        if head == "call":
            if first[0] not in ("fun", "global"):
                return fault("kind")
            many, body = first[2] if first[0] == "fun" else self.program.body(first[2][0])
            return put_in(body, items[1:]) if many == len(items) - 1 else fault("kind")
        if head == "let":
            return put_in(items[1], items[:1])
        if head == "if":
            return items[1 if first[2][0] else 2] if kinds[0] == "flag" else fault("kind")
        if head in ("do", "try"):
            return first
        if head == "seq":
            return items[1]
        if head in ("plus", "minus", "times", "less"):
            if kinds != ["int", "int"]:
                return fault("kind")
            one, two = first[2][0], items[1][2][0]
            if head == "less":
                return ("flag", (), (one < two,))
            return ("int", (), ({"plus": one + two, "minus": one - two, "times": one * two}[head],))
        if head == "same":
            return ("flag", (), (items[0] == items[1],)) if is_plain(first) and is_plain(items[1]) else fault("plain")
        if head == "not":
            return ("flag", (), (not first[2][0],)) if kinds[0] == "flag" else fault("kind")
        if head == "list":
            return ("made", (), items)
        if head in ("first", "rest", "none"):
            if kinds[0] != "made":
                return fault("kind")
            if head == "none":
                return ("flag", (), (first[2] == (),))
            if first[2] == ():
                return fault("empty")
            return first[2][0] if head == "first" else ("made", (), first[2][1:])
        if head == "put":
            return ("made", (), (first,) + items[1][2]) if kinds[1] == "made" else fault("kind")
        return self.with_cells(head, items)

    def with_cells(self, head, items):
        first = items[0]
        if head == "cell":
            self.cells.append(first)
            return ("ref", (), (len(self.cells),))
        if head == "say":
            if not is_plain(first):
                return fault("plain")
            self.said = first
            return first
        if first[0] != "ref":
            return fault("kind")
        if head == "set":
            self.cells[first[2][0] - 1] = items[1]
        return self.cells[first[2][0] - 1]


def refs(tree, found):
    if tree[0] == "ref" and tree[2][0] not in found:
        found.append(tree[2][0])
    for item in tree[2]:
        if isinstance(item, tuple):
            refs(item, found)


def renumbered(tree, found):
    if tree[0] == "ref":
        return ("ref", (), (found.index(tree[2][0]) + 1,))
    return (tree[0], tree[1], tuple(renumbered(item, found) if isinstance(item, tuple) else item for item in tree[2]))


def next_by_the_table(program, state):
    """The term, the cells and what is said behind a step; None at the end."""
    term = state.term
    if is_value(term) or term[0] == "raise" and is_value(term[2][0]):
        return None
    work = Work(program, state.cells)
    try:
        term = work.step(term)
    except Raised as error:
        term = error.node
    found = []
    refs(term, found)
    for number in found:
        refs(work.cells[number - 1], found)
    return renumbered(term, found), tuple(renumbered(work.cells[number - 1], found) for number in found), work.said
