"""Own marks: what may be unlike from lane to lane, and why."""

from widelanes.places import given_by, placed
from widelanes.words import leaves_of


class Links:
    def __init__(self):
        # Of each cause the keys, with lines, that are marked where it is. None is a cause that always is.
        self.behind = {}

    def add(self, causes, key, line):
        for cause in causes:
            self.behind.setdefault(cause, []).append((key, line))


def marks(program):
    links = links_of(program)
    found = {}
    due = [None]
    while due:
        cause = due.pop()
        for key, line in links.behind.get(cause, []):
            # The first reason stays: its cause was there earlier, so that causes never go round.
            if key not in found:
                found[key] = (line, cause)
                due.append(key)
    return found


def links_of(program):
    links = Links()
    params_of = {}
    for name, params, body, line, last in program:
        params_of[name] = params
    for name, params, body, line, last in program:
        links.add([("def", name)], ("back", name), line)
        for statement, around in placed(body):
            link_way(links, name, statement, around)
            link_numbers(links, name, statement)
            if statement[0] == "call":
                link_call(links, name, statement, params_of[statement[3]])
    return links


def way_of(name, around):
    # What makes a way own, the outermost first.
    return [("def", name)] + [("row", block[1]) for block in around]


def causes_of(name, expression):
    leaves = leaves_of(expression)
    causes = [("name", name, leaf[1]) for leaf in leaves if leaf[0] == "name"]
    return [None] if ("lane",) in leaves or ("mine",) in leaves else causes


def link_way(links, name, statement, around):
    way = way_of(name, around)
    line = statement[1]
    given = given_by(statement)
    if given is not None:
        links.add(way, ("name", name, given), line)
    if statement[0] in ("break", "again"):
        whiles = [block[1] for block in around if block[0] == "while"]
        links.add(way, ("row", whiles[-1]), line)
    if statement[0] == "return":
        links.add(way, ("def", name), line)
    if statement[0] == "call":
        links.add(way, ("def", statement[3]), line)


def link_numbers(links, name, statement):
    kind = statement[0]
    line = statement[1]
    if kind in ("if", "while"):
        links.add(causes_of(name, statement[2]), ("row", line), line)
    if kind == "return":
        links.add(causes_of(name, statement[2]), ("back", name), line)
    if kind == "set":
        links.add(causes_of(name, statement[3]), ("name", name, statement[2]), line)
    # All other joins give all lanes the same number.
    if kind == "join" and statement[3] == "ahead":
        links.add([None], ("name", name, statement[2]), line)


def link_call(links, name, statement, params):
    line = statement[1]
    called = statement[3]
    links.add([("back", called)], ("name", name, statement[2]), line)
    for param, expression in zip(params, statement[4]):
        links.add(causes_of(name, expression), ("name", called, param), line)


def waits(program):
    found = marks(program)
    told = []
    for name, params, body, line, last in program:
        for statement, around in placed(body):
            own = [key for key in way_of(name, around) if key in found]
            if own and statement[0] in ("meet", "join"):
                told.append((statement[1], own[0]))
    return told


def is_let(program):
    return not waits(program)
