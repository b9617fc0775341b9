"""What trees are in clearer books, and by other names."""

from saidanew.trees import changed_throughout


def clear_ink(book, other, ink):
    """An ink of a book as it is in another one, which has the same rows but more clear nodes."""
    return tuple([mark for mark in ink if not is_clear(other, mark) or is_clear(book, mark)])


def is_clear(book, mark):
    """Whether the node of a template that a mark names is clear."""
    word, place, path = mark
    rule = book.lexicon.rule_at(word, place)
    if rule is None or not rule.clear_ones:
        return False
    form = book.lexicon.form_at(rule, path)
    return form is not None and not isinstance(form, str) and form.at in rule.clear_ones


def cleared(book, other, tree):
    """The tree with all inks as they are in the other book."""
    return changed_throughout(tree, lambda node: (node[0], clear_ink(book, other, node[1]), node[2]))


def renamed_tree(tree, names):
    """The tree with words named anew by a dict, in uses and in marks."""
    return changed_throughout(tree, lambda node: renamed_node(node, names))


def renamed_node(node, names):
    """The node with words named anew in its ink, and in itself if it is a use."""
    head, ink, items = node
    if head == "use":
        items = (names.get(items[0], items[0]), *items[1:])
    return (head, tuple([(names.get(word, word), place, path) for word, place, path in ink]), items)
