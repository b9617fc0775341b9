"""Kinds of trees, of functions, of states and of rules."""

from saidanew.demands import Demands
from saidanew.errors import NoKind
from saidanew.expansions import expansion_of
from saidanew.functions import functions_of_program, schemes_of_book
from saidanew.kindtexts import kind_text


def kind_of(program, tree):
    """The most general kind of a closed tree."""
    demands = demands_over(program)
    kind = demands.solver.unknown()
    path = demands.first_unmet(tree, kind, ())
    if path is not None:
        raise NoKind(path)
    return kind_text(demands.solver.resolved(kind), {})


def kind_of_function(program, f):
    """The kind of a function of the program or its book."""
    scheme = functions_of_program(program)[f]
    if scheme is None:
        raise NoKind(())
    return kind_text(scheme.whole, {})


def kind_of_state(program, state):
    """The kind of a state's term, each cell having one kind in the term and the values."""
    demands = demands_over(program)
    kind = demands.solver.unknown()
    parts = [(state.term, kind)]
    for at, value in enumerate(state.cells):
        demands.cells[at + 1] = demands.solver.unknown()
        parts.append((value, demands.cells[at + 1]))
    for tree, wanted in parts:
        if demands.first_unmet(tree, wanted, ()) is not None:
            raise NoKind(())
    return kind_text(demands.solver.resolved(kind), {})


def rule_kind(book, word, n):
    """The derived kind of a use: those at the places of its arguments, and its own one; None if no rule takes it."""
    if book.rule(word, n) is None:
        return None
    lexicon = book.lexicon
    key = (word, n)
    if key not in lexicon.derived_kinds:
        lexicon.derived_kinds[key] = derived_kind(lexicon, word, n)
    found = lexicon.derived_kinds[key]
    if found is None:
        raise NoKind(())
    return found


def derived_kind(lexicon, word, n):
    """The derived kind of a use that some rule takes; None if its template does not fit by itself."""
    schemes = schemes_of_book(lexicon)
    demands = Demands(schemes, schemes.function_schemes)
    kind = demands.solver.unknown()
    expansion = expansion_of(lexicon, word, n)
    if demands.first_unmet(expansion.tree, kind, ()) is not None:
        return None
    found = [[] for _ in expansion.paths]
    for number, wanted, binders in demands.places:
        found[number].append((wanted, binders))
    names = {}
    places = []
    for pairs in found:
        texts = []
        for wanted, binders in pairs:
            text = kind_text(demands.solver.resolved(wanted), names)
            texts.append((text, tuple([kind_text(demands.solver.resolved(one), names) for one in binders])))
        places.append(tuple(texts))
    return tuple(places), kind_text(demands.solver.resolved(kind), names)


def demands_over(program):
    """The demands of trees over a program."""
    return Demands(schemes_of_book(program.book.lexicon), functions_of_program(program))
