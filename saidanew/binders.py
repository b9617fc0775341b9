"""Binders: how many a node puts around each of its trees."""


def binders_over(node, lexicon):
    """For each tree of a node, how many binders the node puts around it.

    A use that no rule takes is no use that fits; it is taken to bind nothing.
    """
    head, _, items = node
    if head != "use":
        return binders_over_core(node)
    sizes = [len(scope) for scope in lexicon.scopes_for(items[0], items[1]) or ()]
    many = len(items) - 2
    return tuple((sizes + [0] * many)[:many])


def binders_over_core(node):
    """For each tree of a node that is no use, how many binders the node puts around it."""
    head, _, items = node
    if head == "fun":
        return (items[0],)
    if head == "let" or head == "try":
        return (0, 1)
    return (0,) * len(items)
