"""Work: where the next step of a term is, and what a node becomes by its own step."""

from saidanew.filling import filled
from saidanew.trees import LITERALS

# Of these heads only the first item must be a value ahead of the node's own step.
FIRST_ALONE = ("let", "if", "seq", "try")


def is_value(tree):
    """Whether a core tree is a value."""
    return tree[0] == "fun" or tree[0] in LITERALS


def place_of_work(term):
    """The node of a term at which the next step is, and the nodes above it, each with the index of the item."""
    above = []
    node = term
    at = item_to_work_on(node)
    while at is not None:
        above.append((node, at))
        node = node[2][at]
        at = item_to_work_on(node)
    return node, above


def wanted_values(node):
    """The items of a node, which is no value, that must be values ahead of its own step."""
    return node[2][:1] if node[0] in FIRST_ALONE else node[2]


def item_to_work_on(node):
    """The index of the first item that must be a value and is none, or None."""
    if is_value(node):
        return None
    for at, item in enumerate(wanted_values(node)):
        if not is_value(item):
            return at
    return None


def place_of_catcher(above):
    """The index of the innermost `try` among the nodes above a raise, or None."""
    for at in reversed(range(len(above))):
        if above[at][0][0] == "try":
            return at
    return None


def raise_of(word):
    """What a node becomes whose values are not as wanted."""
    return ("raise", (), (("quote", (), (word,)),))


def is_plain(value):
    """Whether a value is an integer, a quoted word, a flag, or a `made` of such at any depth."""
    waiting = [value]
    while waiting:
        tree = waiting.pop()
        if tree[0] == "made":
            waiting.extend(tree[2])
        elif tree[0] not in ("int", "quote", "flag"):
            return False
    return True


def own_step(node, cells, program):
    """What a node becomes whose items are values as far as they must be; the cells then; what is said, or None."""
    head, _, items = node
    if head in CELL_STEPS:
        become = CELL_STEPS[head]
        tree, cells = become(items, cells)
        return tree, cells, None
    if head == "call":
        return called(items, program), cells, None
    if head == "say" and is_plain(items[0]):
        return items[0], cells, items[0]
    become = STEPS[head]
    return become(items), cells, None


def called(items, program):
    """The body of what is called, its parameters replaced by the other items."""
    what = items[0]
    if what[0] not in ("fun", "global"):
        return raise_of("kind")
    many, body = what[2] if what[0] == "fun" else program.body(what[2][0])
    if many != len(items) - 1:
        return raise_of("kind")
    return filled(body, items[1:])


def new_cell(items, cells):
    """A new cell, behind the others."""
    return ("ref", (), (len(cells) + 1,)), cells + (items[0],)


def cell_read(items, cells):
    """The value of a cell."""
    if items[0][0] != "ref":
        return raise_of("kind"), cells
    return cells[items[0][2][0] - 1], cells


def cell_written(items, cells):
    """The value that a cell has from now on."""
    if items[0][0] != "ref":
        return raise_of("kind"), cells
    number = items[0][2][0]
    return items[1], cells[:number - 1] + (items[1],) + cells[number:]


def bound(items):
    """The body of a `let`, its name replaced."""
    return filled(items[1], items[:1])


def chosen(items):
    """The branch of an `if`."""
    if items[0][0] != "flag":
        return raise_of("kind")
    return items[1] if items[0][2][0] else items[2]


def first_item(items):
    """What has nothing more to do than to become its first item."""
    return items[0]


def second_item(items):
    """What becomes its second item."""
    return items[1]


def numbers(items):
    """The integers that two items are, or None."""
    if items[0][0] != "int" or items[1][0] != "int":
        return None
    return items[0][2][0], items[1][2][0]


def total(items):
    """A sum."""
    pair = numbers(items)
    return raise_of("kind") if pair is None else ("int", (), (pair[0] + pair[1],))


def difference(items):
    """A difference."""
    pair = numbers(items)
    return raise_of("kind") if pair is None else ("int", (), (pair[0] - pair[1],))


def multiple(items):
    """A product."""
    pair = numbers(items)
    return raise_of("kind") if pair is None else ("int", (), (pair[0] * pair[1],))


def is_less(items):
    """Whether one integer is less than another one."""
    pair = numbers(items)
    return raise_of("kind") if pair is None else ("flag", (), (pair[0] < pair[1],))


def is_same(items):
    """Whether two plain values are equal."""
    if not is_plain(items[0]) or not is_plain(items[1]):
        return raise_of("plain")
    return ("flag", (), (items[0] == items[1],))


def opposite(items):
    """The other flag."""
    if items[0][0] != "flag":
        return raise_of("kind")
    return ("flag", (), (not items[0][2][0],))


def made_of(items):
    """A `made` of values."""
    return ("made", (), items)


def first_of(items):
    """The first item of a `made`."""
    if items[0][0] != "made":
        return raise_of("kind")
    return items[0][2][0] if items[0][2] else raise_of("empty")


def others_of(items):
    """A `made` of the items of a `made` but the first one."""
    if items[0][0] != "made":
        return raise_of("kind")
    return made_of(items[0][2][1:]) if items[0][2] else raise_of("empty")


def is_empty(items):
    """Whether a `made` has no item."""
    if items[0][0] != "made":
        return raise_of("kind")
    return ("flag", (), (not items[0][2],))


def put_ahead(items):
    """A `made` with one item more, ahead of the others."""
    if items[1][0] != "made":
        return raise_of("kind")
    return made_of(items[:1] + items[1][2])


def not_plain(items):
    """What becomes of something that is to be said and is not plain."""
    return raise_of("plain")


CELL_STEPS = {"cell": new_cell, "get": cell_read, "set": cell_written}
STEPS = {
    "let": bound, "if": chosen, "do": first_item, "seq": second_item, "try": first_item, "say": not_plain,
    "plus": total, "minus": difference, "times": multiple, "less": is_less, "same": is_same, "not": opposite,
    "list": made_of, "first": first_of, "rest": others_of, "none": is_empty, "put": put_ahead,
}
