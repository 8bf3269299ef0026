"""Programs, parts of programs and other values that the tests share."""

GIVE = ("give", ("num", 0))
ATOM = ("num", 0)


def at(name, more=0):
    return ("at", name, more)


def row(name):
    return ("row", name)


def let(name, right, body=GIVE):
    return ("let", name, right, body)


def function(body=GIVE, name="f", params=(), out="number"):
    return (name, params, out, body)


def program(*functions, given=()):
    return (given, functions)


def numbers(*names):
    return tuple((name, "number") for name in names)


def rows(*names):
    return tuple((name, "row") for name in names)


def chain(nodes, letters="abcdefghijklmnopqrstuvwxyz"):
    """A body of so many nodes, one behind the other."""
    body = GIVE
    for k in range(nodes - 1):
        body = let(letters[k], ("be", ATOM), body)
    return body


def musts(nodes, body=GIVE):
    """A body of so many nodes more, without names."""
    for _ in range(nodes):
        body = ("must", ATOM, ATOM, body)
    return body


def doubled(times):
    """One body that stands many times within another one."""
    body = GIVE
    for _ in range(times):
        body = ("if", ATOM, ATOM, body, body)
    return body


def nested(times, make):
    thing = make(0)
    for _ in range(times):
        thing = make(thing)
    return thing


DEEP = 20000
HUGE = 10 ** 299


class Odd:
    """An object that is like nothing and cannot be compared, hashed or shown."""

    __hash__ = None

    def __eq__(self, other):
        raise AssertionError("compared")

    def __repr__(self):
        raise AssertionError("shown")


class Text(str):
    pass


class Number(int):
    pass


class Pair(tuple):
    pass


def anything():
    """Values of any kind, none of which is a part of a program but a text or a number by chance."""
    loop = []
    loop.append((loop,))
    return [
        None, True, False, 0, 1, -1, 5, -5, HUGE, -HUGE, "", "0", "a b", "give", "number!", b"", b"a", [], {}, set(),
        (), (None,), ("",), ((),), ((), ()), [(), ()], {"give": 0}, {0: (), 1: ()}, frozenset(), range(3), len, str,
        Odd(), Pair(), Number(0), Text("a b"), loop, object(), BaseException("x"), iter(()), slice(1), ..., "x" * 10 ** 6,
        nested(DEEP, lambda inner: (inner,)), nested(DEEP, lambda inner: [inner]),
        nested(DEEP, lambda inner: (inner, inner)), nested(DEEP, lambda inner: {0: inner}),
        nested(DEEP, lambda inner: ((), (inner,))), nested(DEEP, lambda inner: ("give", inner)),
        tuple(range(10 ** 5)), list(range(10 ** 5)),
    ]


MIXED = program(
    function(
        name="main", params=(("a", "number"), ("r", "row")), out="number",
        body=let("x", ("call", "g", (at("a", -1), row("r"))), let(
            "y", ("with", "r", at("a"), at("x", 2)), ("if", at("a"), at("x"), ("give", at("a")), (
                "if", ("num", 1), ("num", 2), ("give", at("x")),
                let("z", ("long", "y"), ("must", at("z"), ("num", 4), ("give", ("num", -4)))))))),
    ),
    function(
        name="g", params=(("n", "number"), ("s", "row")), out="number",
        body=let("t", ("cut", "s", at("n")), let("p", ("part", "t", ("num", 0)), let(
            "q", ("sum", at("p"), at("n", 4)), let("u", ("call", "h", (row("t"),)), let("v", ("be", at("q", -4)), (
                "give", at("v"))))))),
    ),
    function(name="h", params=(("r", "row"),), out="row", body=("give", row("r"))),
    given=(("", "a", 1), ("a", "#r", -4), ("#r", "", 4)),
)

MIXED_TEXT = """given 0 a 1
given a #r -4
given #r 0 4
fn main number a:number r:row
let x call g a-1 r
let y with r a x+2
if a x
 give a
else
 if 1 2
  give x
 else
  let z long y
  must z 4
  give -4
fn g number n:number s:row
let t cut s n
let p part t 0
let q sum p n+4
let u call h t
let v be q-4
give v
fn h row r:row
give r"""
