"""The rows that a program is made into."""

from widelanes.places import expressions_of, given_by, placed
from widelanes.words import SIGNS, leaves_of


class Sheet:
    def __init__(self):
        self.rows = []
        # Rows are often named ahead of their making; till the end they are named by keys, here with their rows.
        self.spots = {}
        self.name = None
        self.slots = {}

    def begin(self, name, slots):
        self.name = name
        self.slots = slots
        self.lay(("def", name))

    def lay(self, key):
        self.spots[key] = len(self.rows)

    def add(self, row):
        self.rows.append(row)

    def free(self):
        # Slot 0 is what the def returns, so the names' slots begin with 1.
        return len(self.slots) + 1


def made(program):
    sheet = Sheet()
    ordered = [each for each in program if each[0] == "main"] + [each for each in program if each[0] != "main"]
    for name, params, body, line, last in ordered:
        sheet.begin(name, slots_of(params, body))
        make_body(sheet, body, None)
        sheet.lay(("last", name))
        sheet.add(("back", last))
    return [settled(row, sheet.spots) for row in sheet.rows]


def settled(row, spots):
    if row[0] in ("split", "jump", "call"):
        return row[:-1] + (spots[row[-1]],)
    return row


def slots_of(params, body):
    slots = {}
    for name in params + names_within(body):
        if name not in slots:
            slots[name] = len(slots) + 1
    return slots


def names_within(body):
    names = []
    for statement, around in placed(body):
        given = given_by(statement)
        if given is not None:
            names.append(given)
        for expression in expressions_of(statement):
            names.extend([leaf[1] for leaf in leaves_of(expression) if leaf[0] == "name"])
    return names


def make_body(sheet, body, loop):
    for statement in body:
        make_statement(sheet, statement, loop)


def make_statement(sheet, statement, loop):
    # The loop is the line of the innermost while round the statement.
    kind = statement[0]
    line = statement[1]
    sheet.lay(("tick", line))
    sheet.add(("tick", line))
    for at, expression in enumerate(expressions_of(statement), start=sheet.free()):
        make_expression(sheet, line, expression, at)
    if kind == "if":
        make_if(sheet, statement, loop)
    elif kind == "while":
        make_while(sheet, statement)
    elif kind == "break":
        sheet.add(("jump", line, ("behind", loop)))
    elif kind == "again":
        sheet.add(("jump", line, ("tick", loop)))
    else:
        make_rest(sheet, statement)


def make_expression(sheet, line, expression, at):
    kind = expression[0]
    if kind == "num":
        sheet.add(("num", line, at, expression[1]))
    elif kind == "name":
        sheet.add(("copy", line, at, sheet.slots[expression[1]]))
    elif kind in SIGNS:
        sheet.add(("sign", line, at, kind))
    elif kind == "box":
        make_expression(sheet, line, expression[1], at)
        sheet.add(("get", line, at, at))
    else:
        make_expression(sheet, line, expression[1], at)
        make_expression(sheet, line, expression[2], at + 1)
        sheet.add(("op", line, at, kind, at, at + 1))


def make_if(sheet, statement, loop):
    line = statement[1]
    sheet.add(("split", line, sheet.free(), ("else", line)))
    make_body(sheet, statement[3], loop)
    if statement[4] is not None:
        sheet.add(("jump", line, ("behind", line)))
    sheet.lay(("else", line))
    if statement[4] is not None:
        make_body(sheet, statement[4], loop)
    sheet.lay(("behind", line))


def make_while(sheet, statement):
    line = statement[1]
    sheet.add(("split", line, sheet.free(), ("behind", line)))
    make_body(sheet, statement[3], line)
    sheet.add(("jump", line, ("tick", line)))
    sheet.lay(("behind", line))


def make_rest(sheet, statement):
    kind = statement[0]
    line = statement[1]
    first = sheet.free()
    if kind == "set":
        sheet.add(("copy", line, sheet.slots[statement[2]], first))
    elif kind == "put":
        sheet.add(("put", line, first, first + 1))
    elif kind == "tell":
        sheet.add(("tell", line, first))
    elif kind == "call":
        sheet.add(("call", line, sheet.slots[statement[2]], first, len(statement[4]), ("def", statement[3])))
    elif kind == "return":
        sheet.add(("copy", line, 0, first))
        sheet.add(("jump", line, ("last", sheet.name)))
    elif kind == "join":
        sheet.add(("join", line, sheet.slots[statement[2]], statement[3], first))
    else:
        sheet.add((kind, line))
