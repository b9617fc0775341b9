"""The words of a book: which rule a use takes, and in whose scope its arguments stand."""

LONGEST_REST = 6
# The index of the first item that is a tree, where it is not 0.
FIRST_TREE = {"fun": 1, "use": 2}


class Lexicon:
    """The rules of each word, and the functions, of the rows of a book.

    Scopes are known only once they have been learned, which needs rows in which
    each use has a number of arguments that a rule takes, and no loops.
    """

    def __init__(self, rows):
        self.rules = {}
        functions = []
        for row in rows:
            if row.kind == "word":
                self.rules[row.title] = []
            elif row.kind == "rule":
                self.rules[row.title].append(row)
            else:
                functions.append(row.title)
        self.all_functions = tuple(sorted(functions))
        self.all_words = tuple(self.rules)
        self.known_scopes = {}

    def rule_at(self, word, place):
        """The row of a rule by its index in its word, or None."""
        rules = self.rules.get(word, [])
        if 0 <= place < len(rules):
            return rules[place]
        return None

    def rule_for(self, word, n):
        """The row of the rule that a use with n arguments takes, or None."""
        for rule in self.rules.get(word, []):
            more = n - len(rule.arguments)
            if more == 0 or (rule.rest is not None and 0 < more <= LONGEST_REST):
                return rule
        return None

    def names_for(self, word, n):
        """Which of n arguments are name arguments, or None if no rule is taken."""
        rule = self.rule_for(word, n)
        if rule is None:
            return None
        names = [binds for _, binds in rule.arguments]
        return tuple(names + [False] * (n - len(names)))

    def scopes_for(self, word, n):
        """In whose scope each expression argument stands, or None if no rule is taken."""
        rule = self.rule_for(word, n)
        if rule is None:
            return None
        # What stands in a rest is in no scope: a word with a rest has no name arguments.
        return self.known_scopes[(word, rule.place)] + ((),) * (n - len(rule.arguments))

    def rest_lengths(self, rule):
        """The lengths of the rest with which this rule is taken."""
        others = len(rule.arguments)
        takers = [self.rule_for(rule.title, others + more) for more in range(LONGEST_REST + 1)]
        return [more for more, taker in enumerate(takers) if taker.place == rule.place]

    def learn_scopes(self):
        """Finds the scopes of all rules."""
        for word in self.all_words:
            # A rule uses its own word with fewer arguments only, and other words only from earlier rows.
            for rule in sorted(self.rules[word], key=lambda known: len(known.arguments)):
                self.known_scopes[(word, rule.place)] = self._scopes_of(rule)

    def _scopes_of(self, rule):
        """For each expression argument, the indexes of the arguments whose scope all its places share."""
        scopes = []
        for places in self.places_of(rule):
            shared = [at for at in range(len(rule.arguments)) if all([at in scope for scope in places])]
            scopes.append(tuple(shared) if places else ())
        return tuple(scopes)

    def places_of(self, rule):
        """For each expression argument, the list of its places: in which arguments' scopes each one is."""
        places = {name: [] for name in rule.expression_arguments()}
        for word, around in self.names_in(rule):
            if word in places:
                # Of the arguments, name arguments alone can be among binders.
                scope = [at for at, (name, _) in enumerate(rule.arguments) if name in around]
                places[word].append(tuple(scope))
        return list(places.values())

    def names_in(self, row):
        """The names that stand for something in a row's expression, each with the binders around it."""
        found = []
        waiting = [(row.body, tuple(row.parameters))]
        while waiting:
            form, around = waiting.pop()
            if form.head == "name":
                found.append((form.word, around))
            for part, binders in self.trees_in(form):
                waiting.append((part, around + binders))
        return found

    def trees_in(self, form):
        """The parts of a form that are trees, each with the binders that the form puts around it."""
        if form.head == "use":
            return self._trees_in_use(form)
        if form.head == "fun":
            return [(form.parts[0], tuple(form.binders))]
        if form.head in ("let", "try"):
            return [(form.parts[0], ()), (form.parts[1], tuple(form.binders))]
        return [(part, ()) for part in form.parts]

    def _trees_in_use(self, use):
        if use.ends_in_rest():
            return [(part, ()) for part in use.parts]
        n = len(use.parts)
        names = self.names_for(use.word, n)
        trees = [part for part, binds in zip(use.parts, names) if not binds]
        found = []
        for part, scope in zip(trees, self.scopes_for(use.word, n)):
            found.append((part, tuple([use.parts[at].word for at in scope])))
        return found

    def binders_in(self, row):
        """The names of all binders in a row's expression, those that uses bind included."""
        found = []
        for form in row.body.all_forms():
            found.extend(form.binders)
            if form.head == "use":
                found.extend([part.word for part in self.name_parts(form)])
        return found

    def name_parts(self, use):
        """The parts of a use that stand for name arguments."""
        if use.ends_in_rest():
            return []
        names = self.names_for(use.word, len(use.parts))
        return [part for part, binds in zip(use.parts, names) if binds]

    def form_at(self, rule, path):
        """The form at a path of a rule's template as a tree, or None."""
        form = rule.body
        for at in path:
            trees = [part for part, _ in self.trees_in(form)]
            place = at - FIRST_TREE.get(form.head, 0)
            if not 0 <= place < len(trees):
                return None
            form = trees[place]
        return form
