"""A program's text, gone through row by row."""

from strikehall.bodies import names_with_kinds
from strikehall.looking import MOST_NODES
from strikehall.programs import MOST_FUNCTIONS, MOST_GIVEN
from strikehall.rows import read_given, read_head, read_node


class Reading:
    """What the rows taken so far have told, and what may stand behind them."""

    def __init__(self):
        self.given = []
        # Of each function: its head, its nodes without the bodies in them, the numbers of its head's and nodes' rows.
        self.heads = []
        self.nodes = []
        self.places = []
        # Of each if around: 0 in its first body, 1 in its second one.
        self.branches = []
        self.wanted = "head"

    def take(self, row, place):
        """Whether the row can stand here by its form; then it is taken."""
        if self.wanted == "head":
            return self.take_given(row) or self.take_head(row, place)
        if self.wanted == "else":
            return self.take_else(row)
        return self.take_node(row, place)

    def take_given(self, row):
        """Take a row of GIVEN."""
        saying = read_given(row.split(" "))
        if saying is None or self.heads or len(self.given) == MOST_GIVEN:
            return False
        self.given.append(saying)
        return True

    def take_head(self, row, place):
        """Take a function's first row."""
        head = read_head(row.split(" "))
        if head is None or len(self.heads) == MOST_FUNCTIONS:
            return False
        self.heads.append(head)
        self.nodes.append([])
        self.places.append([place])
        self.wanted = "node"
        return True

    def take_else(self, row):
        """Take the row between the two bodies of an if."""
        if row != " " * (len(self.branches) - 1) + "else":
            return False
        self.branches[-1] = 1
        self.wanted = "node"
        return True

    def take_node(self, row, place):
        """Take a node's row."""
        blanks = " " * len(self.branches)
        if not row.startswith(blanks) or len(self.nodes[-1]) == MOST_NODES:
            return False
        node = read_node(row[len(blanks):].split(" "))
        if node is None:
            return False
        self.nodes[-1].append(node)
        self.places[-1].append(place)
        if node[0] == "if":
            self.branches.append(0)
        if node[0] == "give":
            self.end_body()
        return True

    def end_body(self):
        """Behind a give: leave the ifs that have both bodies."""
        while self.branches and self.branches[-1] == 1:
            self.branches.pop()
        self.wanted = "else" if self.branches else "head"

    def is_whole(self):
        """Whether no row lacks."""
        return self.wanted == "head" and len(self.heads) > 0

    def functions(self):
        """A tuple of the functions."""
        return tuple([self.function(number) for number in range(len(self.heads))])

    def function(self, number):
        """The function of that number, whether its names, kinds and calls fit or not."""
        name, params, out = self.heads[number]
        kinds = {}
        for named, kind in names_with_kinds(params, self.nodes[number], self.heads):
            # Of like names the later one's row is refused, and up to there the first one is meant.
            kinds.setdefault(named, kind)
        return (name, params, out, built([settled(node, kinds) for node in self.nodes[number]]))


def settled_arg(arg, kinds):
    """The arg, as a row's where it is the name alone of a row."""
    if arg[0] == "at" and arg[2] == 0 and kinds.get(arg[1]) == "row":
        return ("row", arg[1])
    return arg


def settled(node, kinds):
    """The node with its args settled by the kinds of names."""
    if node[0] == "give":
        return ("give", settled_arg(node[1], kinds))
    if node[0] == "let" and node[2][0] == "call":
        _, called, args = node[2]
        return ("let", node[1], ("call", called, tuple([settled_arg(arg, kinds) for arg in args])))
    return node


def built(nodes):
    """The BODY of these nodes, which come without the bodies in them."""
    bodies = []
    # From the last one on: the bodies in a node are made when it is come to, the first of them the latest.
    for node in reversed(nodes):
        if node[0] == "give":
            bodies.append(node)
        elif node[0] == "if":
            first = bodies.pop()
            bodies.append((*node, first, bodies.pop()))
        else:
            bodies.append((*node, bodies.pop()))
    return bodies.pop()
