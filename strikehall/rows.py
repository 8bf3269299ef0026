"""Single rows of a program's text, read by their form alone: what is none is told as None."""

from strikehall.looking import KINDS, MOST_PARAMS
from strikehall.programs import is_name

# What stands behind the word of a let's right side: "a" an atom, "r" the name of a row.
RIGHTS = {"be": "a", "sum": "aa", "long": "r", "part": "ra", "with": "raa", "cut": "ra"}
NUMBERS = {"-4": -4, "-3": -3, "-2": -2, "-1": -1, "0": 0, "1": 1, "2": 2, "3": 3, "4": 4}
STEPS = {"-4": -4, "-3": -3, "-2": -2, "-1": -1, "+1": 1, "+2": 2, "+3": 3, "+4": 4}


def read_atom(word):
    """An ATOM; of a name alone the one of a number, whatever its kind will be."""
    if word in NUMBERS:
        return ("num", NUMBERS[word])
    if is_name(word):
        return ("at", word, 0)
    name, step = word[:-2], word[-2:]
    if step in STEPS and is_name(name):
        return ("at", name, STEPS[step])
    return None


def read_part(sort, word):
    """An ATOM of sort "a", the NAME of a row of sort "r"."""
    if sort == "a":
        return read_atom(word)
    return word if is_name(word) else None


def read_parts(sorts, words):
    """A tuple of parts of these sorts."""
    if len(sorts) != len(words):
        return None
    parts = [read_part(sort, word) for sort, word in zip(sorts, words)]
    return None if None in parts else tuple(parts)


def read_right(words):
    """A RIGHT."""
    if len(words) >= 2 and words[0] == "call":
        args = read_parts("a" * (len(words) - 2), words[2:])
        return ("call", words[1], args) if is_name(words[1]) and args is not None else None
    if not words or words[0] not in RIGHTS:
        return None
    parts = read_parts(RIGHTS[words[0]], words[1:])
    return None if parts is None else (words[0], *parts)


def read_node(words):
    """What a node has without the bodies in it."""
    if words[0] == "let":
        right = read_right(words[2:])
        return ("let", words[1], right) if right is not None and is_name(words[1]) else None
    if words[0] not in ("give", "must", "if"):
        return None
    parts = read_parts("a" if words[0] == "give" else "aa", words[1:])
    return None if parts is None else (words[0], *parts)


def read_term(word):
    """A TERM of an entry."""
    if word == "0":
        return ""
    name = word[1:] if word.startswith("#") else word
    return word if is_name(name) else None


def read_given(words):
    """A SAYING of GIVEN."""
    if len(words) != 4 or words[0] != "given" or words[3] not in NUMBERS:
        return None
    one, other = read_term(words[1]), read_term(words[2])
    return None if one is None or other is None else (one, other, NUMBERS[words[3]])


def read_param(word):
    """A pair of PARAMS."""
    name, _, kind = word.partition(":")
    return (name, kind) if is_name(name) and kind in KINDS else None


def read_head(words):
    """What a function has ahead of its body, (NAME, PARAMS, OUT)."""
    if not 3 <= len(words) <= 3 + MOST_PARAMS or words[0] != "fn":
        return None
    params = [read_param(word) for word in words[3:]]
    if not is_name(words[1]) or words[2] not in KINDS or None in params:
        return None
    return (words[1], tuple(params), words[2])
