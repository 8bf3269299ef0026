"""The words of a desk's lines. What is not written as it should be is told as None."""

from strikehall.programs import is_number_below
from strikehall.sayings import is_term

# Of a number no more signs are read. All numbers in runs have far fewer figures, so it is more, or less, all the same.
MOST_SIGNS = 900


def read_number(word):
    """The number."""
    figures = word[1:] if word.startswith("-") else word
    if not figures.isdigit() or not figures.isascii() or figures[0] == "0" and word != "0":
        return None
    return int(word[:MOST_SIGNS])


def read_number_below(word, many):
    """The number from 0, below that many."""
    number = read_number(word)
    return number if is_number_below(number, many) else None


def read_input(word):
    """The number or the row."""
    if not word.startswith("[") or not word.endswith("]"):
        return read_number(word)
    inner = word[1:-1]
    numbers = [read_number(part) for part in inner.split(",")] if inner else []
    return None if None in numbers else tuple(numbers)


def read_inputs(words):
    """A tuple of the inputs."""
    inputs = [read_input(word) for word in words]
    return None if None in inputs else tuple(inputs)


def read_saying(words):
    """(A, B, C), A and B perhaps alike."""
    one, other = ["" if word == "0" else word for word in words[:2]]
    most = read_number(words[2])
    return (one, other, most) if is_term(one) and is_term(other) and most is not None else None


def first_word(row):
    """The first word of a row, whatever blanks it has ahead."""
    return row.lstrip(" ").partition(" ")[0]


def read_put(words):
    """(K, ROWS), ROWS a list, of the words behind "put"."""
    figure, blank, text = words.partition(" ")
    if blank == "" or len(figure) != 1:
        return None
    k = read_number(figure)
    rows = text.split(" ; ")
    heads = [first_word(row) == "fn" for row in rows]
    return (k, rows) if k is not None and heads[0] and True not in heads[1:] else None
