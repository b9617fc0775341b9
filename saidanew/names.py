"""Names: what words, functions, arguments and binders may be called."""

LETTERS = "abcdefghijklmnopqrstuvwxyz"
LONGEST_NAME = 8
RESERVED = (
    "int", "quote", "flag", "global", "made", "ref", "name", "fun", "call", "let", "if",
    "do", "not", "first", "rest", "none", "cell", "get", "raise", "say",
    "seq", "plus", "minus", "times", "less", "same", "put", "set",
    "list", "try", "use",
    "true", "false", "word", "rule", "run", "where",
)


def is_name(thing):
    """Whether any thing is a name."""
    if not isinstance(thing, str) or thing in RESERVED:
        return False
    return 1 <= len(thing) <= LONGEST_NAME and all([letter in LETTERS for letter in thing])
