"""Tokens: how texts fall into them, and how they are written as a text."""

OPENING = ("(", "[")
CLOSING = (")", "]")
STAR = "*"
# The next token stands straight behind these ones.
JOINED = ("(", "[", "*")
DIGITS = "0123456789"


def tokens_of(text):
    """The tokens of a text, in a new list."""
    for bracket in OPENING + CLOSING:
        text = text.replace(bracket, f" {bracket} ")
    return [token for token in text.replace("\n", " ").split(" ") if token]


def spaced(tokens):
    """The text of these tokens, with as few spaces as the document has."""
    pieces = []
    for at, token in enumerate(tokens):
        if at > 0 and tokens[at - 1] not in JOINED and token not in CLOSING:
            pieces.append(" ")
        pieces.append(token)
    return "".join(pieces)


def is_number(token):
    """Whether a token is an integer as it is written in texts."""
    digits = token[1:] if token.startswith("-") else token
    if not digits or not all([digit in DIGITS for digit in digits]):
        return False
    return token == "0" or digits[0] != "0"
