"""Open arguments: those in which a step leads from a line to a line."""

from saidanew.expansions import ARGUMENT, argument_number, expansion_of
from saidanew.working import is_value, wanted_values


def open_arguments(book, word, n):
    """The indexes of the open arguments of a use, ascending; None if no rule takes it."""
    if book.rule(word, n) is None:
        return None
    expansion = expansion_of(book.lexicon, word, n)
    noted = arguments_on_the_way(expansion.tree)
    return tuple([number for number in sorted(noted) if len(expansion.paths[number]) == 1])


def arguments_on_the_way(tree):
    """The numbers of the arguments to which one comes, in the order of work, ahead of the first node's own step."""
    noted = []
    node = tree
    while node is not None and not is_value(node):
        around = node
        node = None
        for item in wanted_values(around):
            if item[0] == ARGUMENT:
                noted.append(argument_number(item))
            elif not is_value(item):
                node = item
                break
    return noted
