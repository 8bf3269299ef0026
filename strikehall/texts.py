"""Programs as texts."""

from strikehall.bodies import terms_at_entry
from strikehall.errors import BadText
from strikehall.looking import heads_of, look_at_function
from strikehall.programs import need_program
from strikehall.reading import Reading


def atom_text(atom):
    """The text of a good atom."""
    if atom[0] == "num":
        return str(atom[1])
    _, name, more = atom
    if more == 0:
        return name
    return f"{name}+{more}" if more > 0 else f"{name}{more}"


def arg_text(arg):
    """The text of a good arg."""
    return arg[1] if arg[0] == "row" else atom_text(arg)


def part_text(part):
    """The text of an atom, or of a row's name."""
    return part if type(part) is str else atom_text(part)


def right_text(right):
    """The text of what a let has behind its name."""
    if right[0] == "call":
        return " ".join(["call", right[1]] + [arg_text(arg) for arg in right[2]])
    return " ".join([right[0]] + [part_text(part) for part in right[1:]])


def node_text(node):
    """The row of a node, without blanks ahead."""
    if node[0] == "give":
        return "give " + arg_text(node[1])
    if node[0] == "let":
        return "let " + node[1] + " " + right_text(node[2])
    return node[0] + " " + atom_text(node[1]) + " " + atom_text(node[2])


def body_rows(body, depth):
    """A list of the rows of a body around which there are so many ifs."""
    rows = [" " * depth + node_text(body)]
    if body[0] != "if":
        for inner in body[3:]:
            rows.extend(body_rows(inner, depth))
        return rows
    rows.extend(body_rows(body[3], depth + 1))
    rows.append(" " * depth + "else")
    rows.extend(body_rows(body[4], depth + 1))
    return rows


def function_rows(function):
    """A list of the rows of a function."""
    name, params, out, body = function
    head = " ".join(["fn", name, out] + [named + ":" + kind for named, kind in params])
    return [head] + body_rows(body, 0)


def term_text(term):
    """The word that stands for a TERM."""
    return "0" if term == "" else term


def saying_text(saying):
    """The words that stand for a saying."""
    one, other, most = saying
    return f"{term_text(one)} {term_text(other)} {most}"


def program_rows(program):
    """A list of lists of rows of what surely is a program: those of GIVEN, then those of each function."""
    given, functions = program
    return [["given " + saying_text(saying) for saying in given]] + [function_rows(function) for function in functions]


def text_of_rows(parts):
    """The text that has the rows of all these lists."""
    return "\n".join([row for rows in parts for row in rows])


def program_text(program):
    """The program's text; BadProgram."""
    return text_of_rows(program_rows(need_program(program)))


def reading_of(text):
    """All rows of the text, read by their form; BadText."""
    if type(text) is not str:
        raise BadText(-1)
    reading = Reading()
    rows = text.split("\n")
    for place, row in enumerate(rows):
        if not reading.take(row, place):
            raise BadText(place)
    if not reading.is_whole():
        raise BadText(len(rows))
    return reading


def need_given(reading):
    """Refuse the first row of GIVEN whose TERMs are alike, or not those of the entry; BadText."""
    terms = terms_at_entry(reading.heads[0][1])
    for place, (one, other, _) in enumerate(reading.given):
        if one == other or one not in terms or other not in terms:
            raise BadText(place)


def read_program(text):
    """The program of which this is the text; BadText, of anything."""
    reading = reading_of(text)
    need_given(reading)
    functions = reading.functions()
    heads = heads_of(functions)
    for number in range(len(functions)):
        misfit = look_at_function(functions, number, heads)
        if misfit is not None:
            raise BadText(reading.places[number][misfit])
    return (tuple(reading.given), functions)
