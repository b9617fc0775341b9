"""Names: what words, functions, arguments and binders may be called."""

LETTERS = "abcdefghijklmnopqrstuvwxyz"
LONGEST_NAME = 8
RESERVED = {
    "int": True, "quote": True, "flag": True, "global": True, "made": True, "ref": True, "name": True,
    "fun": True, "call": True, "let": True, "if": True,
    "do": True, "not": True, "first": True, "rest": True, "none": True,
    "cell": True, "get": True, "raise": True, "say": True,
    "seq": True, "plus": True, "minus": True, "times": True, "less": True, "same": True,
    "put": True, "set": True,
    "list": True, "try": True, "use": True,
    "true": True, "false": True, "word": True, "rule": True, "run": True, "where": True,
}


def is_name(thing):
    """Whether any thing is a name."""
    if not isinstance(thing, str) or len(thing) > LONGEST_NAME or not thing.isalpha():
        return False
    return thing.islower() and thing.isascii() and thing not in RESERVED
