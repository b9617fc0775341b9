"""Tokens: how texts fall into them, and how they are written as a text."""

from saidanew.names import is_name

OPENING = ("(", "[")
CLOSING = (")", "]")
STAR = "*"
# Python turns only so many digits at once into an integer that this is far below.
CHUNK = 64


def tokens_of(text):
    """The tokens of a text, in a new list."""
    return [token for token in _apart(text).replace("\n", " ").split(" ") if token]


def token_rows(text):
    """The tokens of each row of a text, without the rows that have none."""
    rows = []
    for line in _apart(text).split("\n"):
        tokens = [token for token in line.split(" ") if token]
        if tokens:
            rows.append(tokens)
    return rows


def _apart(text):
    """The text with spaces around each bracket."""
    for bracket in OPENING + CLOSING:
        if bracket in text:
            text = text.replace(bracket, f" {bracket} ")
    return text


def spaced(tokens):
    """The text of these tokens, with as few spaces as the document has.

    None of them ends in a star without being one: such tokens stand in no text that is right.
    """
    text = " ".join(tokens)
    for opening in OPENING:
        text = text.replace(opening + " ", opening)
    for closing in CLOSING:
        text = text.replace(" " + closing, closing)
    return text.replace(STAR + " ", STAR)


def is_number(token):
    """Whether a token is an integer as it is written in texts."""
    digits = token[1:] if token.startswith("-") else token
    if not digits.isdecimal() or not digits.isascii():
        return False
    return token == "0" or digits[0] != "0"


def is_cell(token):
    """Whether a token is a cell as it is written in texts."""
    return token.startswith("#") and is_number(token[1:]) and token[1] not in "-0"


def is_quote(token):
    """Whether a token is a quoted word as it is written in texts."""
    return token.startswith("'") and is_name(token[1:])


def number_of(token):
    """The integer that a token tells, of any length."""
    digits = token[1:] if token.startswith("-") else token
    first = len(digits) - len(digits) // CHUNK * CHUNK
    number = int("0" + digits[:first])
    for at in range(first, len(digits), CHUNK):
        number = number * 10 ** 64 + int(digits[at:at + CHUNK])
    return -number if token.startswith("-") else number


def token_of(number):
    """The token that tells an integer of any length."""
    rest = abs(number)
    chunks = []
    while rest >= 10 ** 64:
        rest, low = divmod(rest, 10 ** 64)
        chunks.append(str(low).zfill(CHUNK))
    chunks.append(str(rest))
    sign = "-" if number < 0 else ""
    return sign + "".join(chunks[::-1])
