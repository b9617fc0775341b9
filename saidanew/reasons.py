"""The reasons for which the rows of a book are refused, behind that of their form."""

from saidanew.errors import NoBook
from saidanew.forms import FLAGS
from saidanew.lexicon import lexicon_of
from saidanew.names import is_name


class Wrongs:
    """For each of some reasons, in their order, the first row that is wrong for it."""

    def __init__(self, reasons):
        self.rows = {why: None for why in reasons}

    def note(self, why, at):
        """Notes that a row is wrong for this reason."""
        if self.rows[why] is None or at < self.rows[why]:
            self.rows[why] = at

    def refuse(self):
        """Raises NoBook for the first reason for which some row is wrong."""
        for why, at in self.rows.items():
            if at is not None:
                raise NoBook(at, why)


def judged(rows):
    """The lexicon of the rows; raises NoBook for the first reason and its first row."""
    refuse_twice(rows)
    lexicon = lexicon_of(rows)
    refuse_uses(rows, lexicon)
    # Scopes can be told only of uses that are right so far.
    refuse_places(rows, lexicon)
    return lexicon


def refuse_twice(rows):
    """Raises NoBook for the first row that names something again."""
    words = {}
    functions = {}
    for at, row in enumerate(rows):
        if row.kind == "rule":
            is_wrong = names_twice(row)
        else:
            known = words if row.kind == "word" else functions
            is_wrong = row.title in known
            known[row.title] = True
        if is_wrong:
            raise NoBook(at, "twice")


def names_twice(rule):
    """Whether an argument was there, or a binder has the name of one that is no name argument."""
    taken = rule.expression_names()
    if len(set(taken + rule.name_arguments())) < len(taken) + len(rule.name_arguments()):
        return True
    return any([name in taken for name in rule.binders])


def refuse_uses(rows, lexicon):
    """Raises NoBook for wrong roots, wrong uses, and words whose rules do not go together."""
    wrongs = Wrongs(("root", "word", "names", "count", "loop"))
    known = {}
    has_rest = has_names = False
    for at, row in enumerate(rows):
        if row.kind == "word":
            known[row.title] = True
            has_rest = has_names = False
        elif row.kind == "rule":
            if root_is_wrong(row):
                wrongs.note("root", at)
            has_rest = has_rest or row.rest is not None
            has_names = has_names or row.binds
            if has_rest and has_names:
                wrongs.note("names", at)
            note_uses(row, at, lexicon, known, wrongs)
            if any([is_loop(use, row) for use in row.uses]):
                wrongs.note("loop", at)
        else:
            note_uses(row, at, lexicon, lexicon.rules, wrongs)
    wrongs.refuse()


def root_is_wrong(rule):
    """Whether the root of a template is not what it may be."""
    root = rule.root
    return isinstance(root, str) or root.head == "use" or root.at in rule.clear_ones


def note_uses(row, at, lexicon, known, wrongs):
    """Notes uses of words that are not known in this row, and uses with wrong arguments."""
    for use in row.uses:
        if use.word not in known:
            wrongs.note("word", at)
        if use.ends_in_rest:
            if rest_is_wrong(use, row, lexicon):
                wrongs.note("count", at)
        elif use_is_wrong(use, row, lexicon):
            wrongs.note("count", at)


def rest_is_wrong(use, row, lexicon):
    """Whether for some length of its rest a use has no rule, or one with name arguments."""
    others = len(use.parts) - 1
    takers = [lexicon.rule_for(use.word, others + more) for more in lexicon.rest_lengths(row)]
    return any([taker is None or taker.binds for taker in takers])


def use_is_wrong(use, row, lexicon):
    """Whether a use without a rest has no rule, or wrong parts for its name arguments."""
    taker = lexicon.rule_for(use.word, len(use.parts))
    if taker is None:
        return True
    if not taker.binds:
        return False
    names = lexicon.name_parts(use)
    if not all([is_name(name) for name in names]) or len(set(names)) < len(names):
        return True
    taken = row.expression_names()
    return any([name in taken for name in names])


def is_loop(use, rule):
    """Whether a use is of the rule's own word, and has not fewer arguments than the rule."""
    others = len(use.parts) - 1 if use.ends_in_rest else len(use.parts)
    return use.word == rule.title and others >= len(rule.arguments)


def refuse_places(rows, lexicon):
    """Raises NoBook for wrong scopes, names and places; gives the lexicon the scopes of all rules."""
    wrongs = Wrongs(("scope", "unknown", "place"))
    numbers = {}
    for at, row in enumerate(rows):
        if row.kind == "rule":
            numbers[(row.title, row.place)] = at
    for word, rules in lexicon.rules.items():
        # A rule uses its own word with fewer arguments only, and other words only from earlier rows.
        for rule in sorted(rules, key=lambda known: len(known.arguments)):
            judge_rule(rule, numbers[(word, rule.place)], lexicon, wrongs)
    for at, row in enumerate(rows):
        if row.kind == "fun" and has_unknown(row, {}, lexicon):
            wrongs.note("unknown", at)
    wrongs.refuse()


def judge_rule(rule, at, lexicon, wrongs):
    """Finds the scopes of a rule's arguments, and notes what is wrong in the row."""
    places = {name: [] for name in rule.expression_arguments()}
    if has_unknown(rule, places, lexicon):
        wrongs.note("unknown", at)
    scopes = []
    for found in places.values():
        if not found or rule.binds and len(set(found)) > 1:
            wrongs.note("scope" if found else "place", at)
        scopes.append(shared_scope(found))
    lexicon.known_scopes[(rule.title, rule.place)] = tuple(scopes)
    if rule.rest is not None and rule.rests != 1 or rule.binds and binds_wrong(rule, lexicon):
        wrongs.note("place", at)


def shared_scope(scopes):
    """What all of these scopes have in common."""
    if not scopes:
        return ()
    return tuple([at for at in scopes[0] if all([at in scope for scope in scopes])])


def binds_wrong(rule, lexicon):
    """Whether a name argument does not bind exactly once."""
    binders = list(rule.binders)
    for use in rule.uses:
        binders.extend(lexicon.name_parts(use))
    return any([binders.count(name) != 1 for name in rule.name_arguments()])


def has_unknown(row, places, lexicon):
    """Whether a name in a row stands for nothing; notes the places of the expression arguments.

    A place is told by the indexes of the name arguments in whose scope it is.
    """
    names = {name: at for at, (name, binds) in enumerate(row.arguments) if binds}
    is_wrong = False
    waiting = [([(row.root, ())], row.parameters)]
    while waiting:
        parts, around = waiting.pop()
        for part, binders in parts:
            inner = around + binders
            if not isinstance(part, str):
                waiting.append((lexicon.trees_in(part), inner))
            elif part in places:
                # Of the arguments, name arguments alone can be among binders.
                places[part].append(tuple([at for name, at in names.items() if name in inner]))
            elif part.isalpha() and part not in inner and part not in FLAGS:
                is_wrong = is_wrong or part in names or part not in lexicon.function_rows
    return is_wrong
