"""A program's text, and the program that is told of it."""

from widelanes.errors import NoName, TooMuch
from widelanes.lines import read_line, shown_line
from widelanes.nests import check_nests
from widelanes.places import placed
from widelanes.walks import Walk

MOST_LINES = 200


def read(text):
    texts = text.split("\n")
    if len(texts) > MOST_LINES:
        raise TooMuch("a text of too many lines")
    row = [read_line(each) for each in texts]
    check_nests(row)
    lines = Walk(row)
    program = []
    while not lines.is_over():
        program.append(def_from(lines))
    check_names(program)
    return program


def def_from(lines):
    line = lines.taken()
    number = lines.at
    body = body_from(lines)
    lines.taken()
    return (line[1], line[2], body, number, lines.at)


def body_from(lines):
    body = []
    while lines.before()[0] not in ("else", "end"):
        body.append(statement_from(lines))
    return body


def statement_from(lines):
    line = lines.taken()
    # Lines are numbered from 1, so as many are taken by now as this one's number.
    statement = (line[0], lines.at) + line[1:]
    if line[0] == "if":
        return statement + (body_from(lines), other_from(lines))
    if line[0] == "while":
        statement = statement + (body_from(lines),)
        lines.taken()
    return statement


def other_from(lines):
    # The line behind the yes of an if is its else or its end.
    if lines.taken()[0] == "end":
        return None
    body = body_from(lines)
    lines.taken()
    return body


def check_names(program):
    counts = {}
    for name, params, body, line, last in program:
        if name in counts:
            raise NoName("two defs are called alike")
        if len(set(params)) != len(params):
            raise NoName("two parameters are called alike")
        counts[name] = len(params)
    if counts.get("main") != 0:
        raise NoName("there is no main, or it has parameters")
    for name, params, body, line, last in program:
        check_calls(body, counts)


def check_calls(body, counts):
    for statement, around in placed(body):
        if statement[0] == "call":
            called = statement[3]
            if called == "main" or counts.get(called) != len(statement[4]):
                raise NoName("a call of no def, of main, or with too few or too many expressions")


def shown(program):
    lines = []
    for name, params, body, line, last in program:
        lines.append(shown_line(("def", name, params)))
        lines.extend(shown_body(body))
        lines.append("end")
    return "\n".join(lines)


def shown_body(body):
    lines = []
    for statement in body:
        lines.extend(shown_statement(statement))
    return lines


def shown_statement(statement):
    kind = statement[0]
    lines = [shown_line((kind,) + statement[2:])]
    if kind == "if":
        lines.extend(shown_body(statement[3]))
        if statement[4] is not None:
            lines.append("else")
            lines.extend(shown_body(statement[4]))
    if kind == "while":
        lines.extend(shown_body(statement[3]))
    if kind in ("if", "while"):
        lines.append("end")
    return lines
