"""The reasons for which the rows of a book are refused, behind that of their form."""

from saidanew.errors import NoBook
from saidanew.forms import REST
from saidanew.lexicon import Lexicon


def judged(rows):
    """The lexicon of the rows; raises NoBook for the first reason and its first row."""
    refuse_twice(rows)
    lexicon = Lexicon(rows)
    for why in ("root", "word", "names", "count", "loop"):
        refuse(rows, lexicon, why)
    # Scopes can be told only of uses that are right so far.
    lexicon.learn_scopes()
    for why in ("scope", "unknown", "place"):
        refuse(rows, lexicon, why)
    return lexicon


def refuse(rows, lexicon, why):
    """Raises NoBook for the first row that is wrong for this reason."""
    for at, row in enumerate(rows):
        if row.kind == "rule" or (row.kind == "fun" and why in FUNCTION_REASONS):
            is_wrong = CHECKS[why]
            if is_wrong(row, lexicon):
                raise NoBook(at, why)


def refuse_twice(rows):
    """Raises NoBook for the first row that names something again."""
    words = []
    functions = []
    for at, row in enumerate(rows):
        if row.kind == "rule":
            is_wrong = names_twice(row)
        elif row.kind == "word":
            is_wrong = row.title in words
            words.append(row.title)
        else:
            is_wrong = row.title in functions
            functions.append(row.title)
        if is_wrong:
            raise NoBook(at, "twice")


def names_twice(rule):
    """Whether an argument was there, or a binder has the name of one that is no name argument."""
    names = rule.argument_names()
    if len(set(names)) < len(names):
        return True
    taken = rule.expression_names()
    for form in rule.body.all_forms():
        if any([name in taken for name in form.binders]):
            return True
    return False


def root_is_wrong(row, lexicon):
    """Whether the root of a template is not what it may be."""
    root = row.body
    return root.is_clear or root.head == "use" or not root.is_in_parentheses()


def word_is_wrong(row, lexicon):
    """Whether there is a use of a word that is not known in this row."""
    known = lexicon.all_words
    if row.kind == "rule":
        known = known[:known.index(row.title) + 1]
    return any([use.word not in known for use in row.body.uses()])


def names_are_wrong(row, lexicon):
    """Whether the rules of the word up to this one have a rest and a name argument."""
    rules = lexicon.rules[row.title][:row.place + 1]
    has_rest = any([rule.rest is not None for rule in rules])
    return has_rest and any([len(rule.name_arguments()) > 0 for rule in rules])


def count_is_wrong(row, lexicon):
    """Whether a use has a wrong number of arguments, or wrong ones for name arguments."""
    for use in row.body.uses():
        if use.ends_in_rest():
            if rest_is_wrong(use, row, lexicon):
                return True
        elif use_is_wrong(use, row, lexicon):
            return True
    return False


def rest_is_wrong(use, row, lexicon):
    """Whether for some length of its rest a use has no rule, or one with name arguments."""
    others = len(use.parts) - 1
    for more in lexicon.rest_lengths(row):
        names = lexicon.names_for(use.word, others + more)
        if names is None or any(list(names)):
            return True
    return False


def use_is_wrong(use, row, lexicon):
    """Whether a use without a rest has no rule, or wrong parts for its name arguments."""
    if lexicon.rule_for(use.word, len(use.parts)) is None:
        return True
    parts = lexicon.name_parts(use)
    names = [part.word for part in parts]
    if any([part.head != "name" for part in parts]) or len(set(names)) < len(names):
        return True
    taken = row.expression_names()
    return any([name in taken for name in names])


def loop_is_wrong(row, lexicon):
    """Whether a use of the rule's own word has not fewer arguments than the rule."""
    for use in row.body.uses():
        others = len([part for part in use.parts if part.head != REST])
        if use.word == row.title and others >= len(row.arguments):
            return True
    return False


def scope_is_wrong(row, lexicon):
    """Whether two places of an argument stand in the scopes of different name arguments."""
    return any([len(set(places)) > 1 for places in lexicon.places_of(row)])


def unknown_is_wrong(row, lexicon):
    """Whether a name stands for nothing."""
    for name, around in lexicon.names_in(row):
        if name not in around and is_unknown(name, row, lexicon):
            return True
    return False


def is_unknown(name, row, lexicon):
    """Whether a name that is not bound stands for nothing."""
    if name in row.expression_arguments():
        return False
    return name in row.name_arguments() or name not in lexicon.all_functions


def place_is_wrong(row, lexicon):
    """Whether an argument stands nowhere, or not once where it has to."""
    if any([not places for places in lexicon.places_of(row)]):
        return True
    binders = lexicon.binders_in(row)
    if any([binders.count(name) != 1 for name in row.name_arguments()]):
        return True
    rests = [form for form in row.body.all_forms() if form.head == REST]
    return row.rest is not None and len(rests) != 1


# In rows of functions these reasons alone are possible.
FUNCTION_REASONS = ("word", "count", "unknown")
CHECKS = {
    "root": root_is_wrong,
    "word": word_is_wrong,
    "names": names_are_wrong,
    "count": count_is_wrong,
    "loop": loop_is_wrong,
    "scope": scope_is_wrong,
    "unknown": unknown_is_wrong,
    "place": place_is_wrong,
}
