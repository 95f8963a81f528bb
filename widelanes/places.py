"""The statements of a def: where they stand, and what stands in them."""


def bodies_of(statement):
    if statement[0] == "while":
        return [statement[3]]
    if statement[0] == "if":
        return [body for body in statement[3:] if body is not None]
    return []


def placed(body, around=None):
    # Each statement, in the text's order, with a tuple of the ifs and whiles round it, the outermost first.
    outer = () if around is None else around
    found = []
    for statement in body:
        found.append((statement, outer))
        for inner in bodies_of(statement):
            found.extend(placed(inner, outer + (statement,)))
    return found


def expressions_of(statement):
    kind = statement[0]
    if kind in ("tell", "if", "while", "return"):
        return [statement[2]]
    if kind == "put":
        return [statement[2], statement[3]]
    if kind == "set":
        return [statement[3]]
    if kind == "call":
        return list(statement[4])
    return [statement[4]] if kind == "join" else []


def given_by(statement):
    # The name that a statement gives a number, None where it gives none.
    return statement[2] if statement[0] in ("set", "call", "join") else None
