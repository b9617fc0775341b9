"""The kinds of functions, found in groups of those that call one another."""

from saidanew.building import body_of_function
from saidanew.demands import Demands
from saidanew.schemes import Scheme, Schemes, functions_in


def schemes_of_book(lexicon):
    """The schemes of the uses of a book's words, and of its functions."""
    if lexicon.schemes is None:
        bodies = {}
        for name in lexicon.all_functions:
            bodies[name] = (len(lexicon.function_rows[name].parameters), body_of_function(lexicon, name))
        schemes = Schemes(lexicon, {})
        add_functions(schemes, bodies, schemes.function_schemes)
        lexicon.schemes = schemes
    return lexicon.schemes


def functions_of_program(program):
    """For each function of a program and its book its scheme, or None if it does not fit."""
    if program.known_kinds is None:
        schemes = schemes_of_book(program.book.lexicon)
        found = dict(schemes.function_schemes)
        add_functions(schemes, {name: program.trees[name] for name in program.functions}, found)
        program.known_kinds = found
    return dict(program.known_kinds)


def add_functions(schemes, bodies, known):
    """Adds to the known schemes of functions those of others, with these numbers of parameters and bodies."""
    reached = reached_from({name: functions_in(schemes.lexicon, [tree]) for name, (_, tree) in bodies.items()})
    # Who is called is reached by fewer than who calls, unless they are in one group.
    for name in sorted(bodies, key=lambda one: len(reached[one])):
        if name not in known:
            group = {other: bodies[other] for other in reached[name] if name in reached[other]}
            known.update(schemes_of_group(schemes, group, dict(known)))


def reached_from(named):
    """For each function those to which its calls lead, it itself included, as far as they are among these ones."""
    reached = {}
    for name in named:
        found = {name: True}
        waiting = [name]
        while waiting:
            caller = waiting.pop()
            for other in named[caller]:
                if other in named and other not in found:
                    found[other] = True
                    waiting.append(other)
        reached[name] = found
    return reached


def schemes_of_group(schemes, bodies, known):
    """The schemes of functions that call one another; None for all of them if they do not fit."""
    inside = Schemes(schemes.lexicon, known, tuple(bodies), schemes)
    demands = Demands(inside, known)
    parts = []
    for name, (many, tree) in bodies.items():
        first = demands.solver.unknowns(many + 1)
        parameters = list(range(first, first + many))
        demands.group[name] = ("fun", *parameters, first + many)
        parts.append((tree, first + many, tuple(parameters[::-1])))
    for tree, kind, around in parts:
        if demands.first_unmet(tree, kind, around) is not None:
            return {name: None for name in bodies}
    return {name: Scheme(demands.solver.resolved(kind)) for name, kind in demands.group.items()}
