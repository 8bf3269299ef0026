"""What may be a name. programs.py tells it to all others."""

# As a dict it is asked faster than as a tuple; the values mean nothing.
WORDS = {"fn": 0, "let": 0, "if": 0, "else": 0, "give": 0, "be": 0, "sum": 0, "long": 0, "part": 0, "with": 0,
         "cut": 0, "call": 0, "must": 0, "number": 0, "row": 0, "out": 0, "given": 0}


def is_plain_name(thing):
    """Whether it is a NAME, of anything."""
    # Of ASCII letters, all of them small ones, there are just a to z.
    return (type(thing) is str and len(thing) <= 6 and thing.isalpha() and thing.islower() and thing.isascii()
            and thing not in WORDS)
