"""The statements of a def, and where they stand."""


def bodies_of(statement):
    if statement[0] == "while":
        return [statement[3]]
    if statement[0] == "if":
        return [body for body in statement[3:] if body is not None]
    return []


def placed(body, around=None):
    # Each statement, in the text's order, with a tuple of the ifs and whiles round it, the outermost first.
    outer = () if around is None else around
    found = []
    for statement in body:
        found.append((statement, outer))
        for inner in bodies_of(statement):
            found.extend(placed(inner, outer + (statement,)))
    return found
