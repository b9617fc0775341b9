"""Schemes: the kinds that rules and functions have wherever they are used."""

from saidanew.demands import Demands
from saidanew.kindtexts import kind_text
from saidanew.solving import renumbered, unknowns_in
from saidanew.templates import PLACE, template_for
from saidanew.trees import trees_of


class Scheme:
    """A kind with so many unknowns, numbered from 0 on, that stand for any kinds.

    That of a use has, besides its own kind, the places of its arguments: triples
    of the number of an expression argument, the kind there, and the kinds of
    the name arguments in whose scope it stands, the outermost one first. And it
    has the calls: pairs of a function that the template names and its kind there.
    """

    def __init__(self, whole, places=(), calls=()):
        kinds = [whole]
        for _, kind, binders in places:
            kinds.extend([kind, *binders])
        kinds.extend([kind for _, kind in calls])
        numbers = {unknown: at for at, unknown in enumerate(unknowns_in(kinds))}
        self.many = len(numbers)
        self.whole = renumbered(whole, numbers)
        self.places = []
        for number, kind, binders in places:
            inner = tuple([renumbered(binder, numbers) for binder in binders])
            self.places.append((number, renumbered(kind, numbers), inner))
        self.calls = [(name, renumbered(kind, numbers)) for name, kind in calls]


class Schemes:
    """The schemes of uses, by word and number of arguments; None for what does not fit.

    `function_schemes` has the schemes of functions. Those in the group have none yet:
    what a template wants of them is told by its calls. There may be other
    schemes, those of uses in which no function of the group is named.
    """

    def __init__(self, lexicon, functions, group=(), others=None):
        self.lexicon = lexicon
        self.function_schemes = functions
        self.group = group
        self.others = others
        self.known = {}

    def scheme_for(self, word, n):
        """The scheme of a use that some rule takes, or None if its template does not fit by itself."""
        if self._is_elsewhere(word, n):
            return self.others.scheme_for(word, n)
        waiting = [(word, n)]
        while waiting:
            key = waiting[-1]
            tree = None if key in self.known else template_for(self.lexicon, key[0], key[1]).tree
            wanted = [] if tree is None else [use for use in uses_in(tree) if use not in self.known]
            wanted = [use for use in wanted if not self._is_elsewhere(use[0], use[1])]
            if wanted:
                # The uses in a template come first; none of them leads back to it.
                waiting.extend(wanted)
            else:
                waiting.pop()
                if tree is not None:
                    self.known[key] = self._scheme_of(tree, self._called_in(key[0], key[1]))
        return self.known[(word, n)]

    def _is_elsewhere(self, word, n):
        """Whether the scheme of a use is among the others."""
        return self.others is not None and not self._called_in(word, n)

    def _called_in(self, word, n):
        """The functions of the group that are named in what a use reads as."""
        if not self.group:
            return []
        named = functions_in_use(self.lexicon, word, n)
        return [name for name in self.group if name in named]

    def _scheme_of(self, tree, called):
        """The scheme of a template which names these functions of the group."""
        demands = Demands(self, self.function_schemes)
        solver = demands.solver
        kind = solver.unknown()
        for name in called:
            demands.group[name] = solver.unknown()
        if demands.first_unmet(tree, kind, ()) is not None:
            return None
        whole = solver.resolved(kind)
        facts = [(name, solver.resolved(wanted), ()) for name, wanted in demands.group.items()]
        for number, wanted, binders in demands.places:
            facts.append((number, solver.resolved(wanted), tuple([solver.resolved(binder) for binder in binders])))
        kept = without_repeats(whole, facts)
        places = [fact for fact in kept if isinstance(fact[0], int)]
        return Scheme(whole, places, [fact[:2] for fact in kept if not isinstance(fact[0], int)])


def functions_in_use(lexicon, word, n):
    """The functions that are named in what a use reads as; a dict with True for each."""
    key = (word, n)
    if key not in lexicon.named_functions:
        lexicon.named_functions[key] = functions_in(lexicon, [template_for(lexicon, word, n).tree])
    return lexicon.named_functions[key]


def functions_in(lexicon, trees):
    """The functions that are named in what some trees read as; a dict with True for each."""
    found = {}
    seen = {}
    waiting = list(trees)
    while waiting:
        tree = waiting.pop()
        found.update({name: True for name in names_in(tree)})
        for use in uses_in(tree):
            if use not in seen:
                seen[use] = True
                waiting.append(template_for(lexicon, use[0], use[1]).tree)
    return found


def names_in(tree):
    """The names of functions in a tree, or in a template."""
    return [node[2][0] for node in nodes_of(tree) if node[0] == "global"]


def uses_in(tree):
    """The pairs of word and number of arguments of all uses in a tree, or in a template, each one once."""
    found = {node[2][:2]: True for node in nodes_of(tree) if node[0] == "use"}
    return list(found)


def nodes_of(tree):
    """All nodes of a tree, or of a template, in no special order."""
    found = []
    waiting = [tree]
    while waiting:
        node = waiting.pop()
        found.append(node)
        if node[0] != PLACE:
            waiting.extend(trees_of(node))
    return found


def without_repeats(whole, facts):
    """What a template wants of its arguments and functions, without what it wants twice.

    Facts that share unknowns, other than those of the whole, belong to one
    party. If parties differ in nothing but their unknowns, each one can be met
    wherever the other one can; so one of them is enough.
    """
    shared = unknowns_in([whole])
    kept = {}
    for party in parties_of(facts, shared):
        names = {unknown: str(at) for at, unknown in enumerate(shared)}
        distinct = {}
        for name, kind, binders in party:
            texts = [str(name)] + [kind_text(one, names) for one in (kind, *binders)]
            distinct.setdefault(" : ".join(texts), (name, kind, binders))
        kept.setdefault(" ; ".join(distinct), list(distinct.values()))
    return [fact for party in kept.values() for fact in party]


def parties_of(facts, shared):
    """The facts in lists, so that none of their unknowns, other than the shared ones, is in two of the lists."""
    own = [[one for one in unknowns_in([kind, *binders]) if one not in shared] for _, kind, binders in facts]
    heads = {}
    for unknowns in own:
        for unknown in unknowns:
            heads.setdefault(unknown, unknown)
            heads[head_of(heads, unknown)] = head_of(heads, unknowns[0])
    parties = {}
    for at, fact in enumerate(facts):
        # A fact without such unknowns is a party by itself.
        head = head_of(heads, own[at][0]) if own[at] else -1 - at
        parties.setdefault(head, []).append(fact)
    return list(parties.values())


def head_of(heads, unknown):
    """The unknown to which one comes in the end by a dict."""
    while heads[unknown] != unknown:
        # The way is made shorter for who comes next.
        heads[unknown] = heads[heads[unknown]]
        unknown = heads[unknown]
    return unknown
