"""The words of a book: which rule a use takes, and in whose scope its arguments stand."""

from saidanew.trees import FIRST_TREE

LONGEST_REST = 6
NOTHING = ()


class Lexicon:
    """The rules of each word, and the functions, of the rows of a book.

    Scopes are told for rules only for which they have been set. What takes
    time to be found is kept here once it has been asked for: templates, the
    trees about which papers were asked last, what uses read as, the bodies of
    functions, what was found of kinds, and which uses have which head.
    """

    def __init__(self, rules, functions):
        self.rules = rules
        self.function_rows = functions
        self.all_functions = tuple(sorted(functions))
        self.all_words = tuple(rules)
        self.known_scopes = {}
        self.templates = {}
        self.sights = []
        self.expansions = {}
        self.bodies = {}
        self.schemes = None
        self.named_functions = {}
        self.derived_kinds = {}
        self.candidates = None

    def with_row(self, row):
        """The lexicon with this row in the place of one that differs only in what is clear."""
        rules = dict(self.rules)
        rules[row.title] = [row if rule.place == row.place else rule for rule in rules[row.title]]
        other = Lexicon(rules, self.function_rows)
        other.known_scopes = self.known_scopes
        return other

    def rule_at(self, word, place):
        """The row of a rule by its index in its word, or None."""
        rules = self.rules.get(word, NOTHING)
        if 0 <= place < len(rules):
            return rules[place]
        return None

    def rule_for(self, word, n):
        """The row of the rule that a use with n arguments takes, or None."""
        for rule in self.rules.get(word, NOTHING):
            more = n - len(rule.arguments)
            if more == 0 or (rule.rest is not None and 0 < more <= LONGEST_REST):
                return rule
        return None

    def names_for(self, word, n):
        """Which of n arguments are name arguments, or None if no rule is taken."""
        rule = self.rule_for(word, n)
        if rule is None:
            return None
        names = [binds for _, binds in rule.arguments]
        return tuple(names + [False] * (n - len(names)))

    def scopes_for(self, word, n):
        """In whose scope each expression argument stands, or None if no rule is taken."""
        rule = self.rule_for(word, n)
        if rule is None:
            return None
        # What stands in a rest is in no scope: a word with a rest has no name arguments.
        return self.known_scopes[(word, rule.place)] + ((),) * (n - len(rule.arguments))

    def rest_lengths(self, rule):
        """The lengths of the rest with which this rule is taken."""
        others = len(rule.arguments)
        takers = [self.rule_for(rule.title, others + more) for more in range(LONGEST_REST + 1)]
        return [more for more, taker in enumerate(takers) if taker.place == rule.place]

    def trees_in(self, form):
        """The parts of a form that are trees, each with the names that the form binds around it."""
        if form.head == "use":
            return self._trees_in_use(form)
        if not form.binders:
            return [(part, NOTHING) for part in form.parts]
        if form.head == "fun":
            return [(form.parts[0], form.binders)]
        return [(form.parts[0], NOTHING), (form.parts[1], form.binders)]

    def _trees_in_use(self, use):
        n = len(use.parts)
        if use.ends_in_rest or not self.rule_for(use.word, n).binds:
            return [(part, NOTHING) for part in use.parts]
        names = self.names_for(use.word, n)
        trees = [part for part, binds in zip(use.parts, names) if not binds]
        found = []
        for part, scope in zip(trees, self.scopes_for(use.word, n)):
            found.append((part, tuple([use.parts[at] for at in scope])))
        return found

    def name_parts(self, use):
        """The parts of a use that stand for name arguments."""
        if use.ends_in_rest:
            return []
        names = self.names_for(use.word, len(use.parts))
        return [part for part, binds in zip(use.parts, names) if binds]

    def form_at(self, rule, path):
        """The form, or the token, at a path of a rule's template as a tree; or None."""
        form = rule.root
        for at in path:
            if isinstance(form, str):
                return None
            trees = [part for part, _ in self.trees_in(form)]
            place = at - FIRST_TREE.get(form.head, 0)
            if not 0 <= place < len(trees):
                return None
            form = trees[place]
        return form


def lexicon_of(rows):
    """The lexicon of rows in which no word and no function is twice; it knows no scopes."""
    rules = {}
    functions = {}
    for row in rows:
        if row.kind == "word":
            rules[row.title] = []
        elif row.kind == "rule":
            rules[row.title].append(row)
        else:
            functions[row.title] = row
    return Lexicon(rules, functions)
