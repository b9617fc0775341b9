"""How kinds are written."""

from saidanew.texts import spelled
from saidanew.tokens import spaced


def kind_text(kind, names):
    """The text of a resolved kind; unknowns that have no name in the dict are given the next one there."""
    tokens = []
    waiting = [kind]
    while waiting:
        piece = waiting.pop()
        if isinstance(piece, str):
            tokens.append(piece)
        elif isinstance(piece, int):
            tokens.append(names.setdefault(piece, spelled(len(names))))
        else:
            waiting.extend(pieces_of(piece)[::-1])
    return spaced(tokens)


def pieces_of(kind):
    """The tokens of a kind, and the kinds in it."""
    inner = []
    for part in kind[1:]:
        is_short = isinstance(part, int) or len(part) == 1
        inner.append([part] if is_short else ["(", part, ")"])
    if kind[0] != "fun":
        return [kind[0]] + [piece for part in inner for piece in part]
    return ["fun", "("] + [piece for part in inner[:-1] for piece in part] + [")"] + inner[-1]
