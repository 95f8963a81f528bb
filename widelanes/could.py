"""Which lines may clash, told ahead of any run."""

from widelanes.places import expressions_of, placed
from widelanes.rows import made
from widelanes.ways import next_rows
from widelanes.words import WORKINGS


def form_of(expression):
    if expression[0] == "num":
        return ("fixed", expression[1])
    if expression[0] == "lane":
        return ("lane", 0)
    if expression[0] == "+":
        return form_of_sum(expression[1], expression[2])
    return ("any", 0)


def form_of_sum(one, other):
    if one[0] == "lane" and other[0] == "num":
        return ("lane", other[1])
    if one[0] == "num" and other[0] == "lane":
        return ("lane", one[1])
    return ("any", 0)


def may_meet(one, other):
    if one[0] == "fixed" and other[0] == "fixed":
        return one[1] == other[1]
    if one[0] == "lane" and other[0] == "lane":
        return one[1] != other[1]
    return True


def could(program):
    gets = {}
    puts = {}
    for name, params, body, line, last in program:
        for statement, around in placed(body):
            gets[statement[1]] = forms_got(statement)
            puts[statement[1]] = [form_of(statement[2])] if statement[0] == "put" else []
    starts = starts_of_lines(made(program))
    lines = sorted([line for line in gets if gets[line] or puts[line]])
    pairs = []
    for at, one in enumerate(lines):
        for other in lines[at:]:
            touch = may_touch(puts[one], gets[other] + puts[other]) or may_touch(puts[other], gets[one])
            if touch and (starts[one] & starts[other]) != 0:
                pairs.append((one, other))
    return pairs


def may_touch(puts, touches):
    for put in puts:
        for touch in touches:
            if may_meet(put, touch):
                return True
    return False


def forms_got(statement):
    found = {}
    for expression in expressions_of(statement):
        for place in places_in(expression):
            found[form_of(place)] = True
    return list(found)


def places_in(expression):
    if expression[0] != "box" and expression[0] not in WORKINGS:
        return []
    found = [expression[1]] if expression[0] == "box" else []
    for part in expression[1:]:
        found.extend(places_in(part))
    return found


def starts_of_lines(rows):
    # A statement's touches are come to all or none, for a phase begins and goes elsewhere between statements alone.
    # So lines serve for rows; of each a mask tells the rows where phases begin that come to it.
    flows = flows_of(rows)
    masks = {}
    for at, start in enumerate([0] + [k + 1 for k, row in enumerate(rows) if row[0] in ("meet", "join")]):
        mark_reached(masks, flows, start, 1 << at)
    return line_masks(rows, masks)


def line_masks(rows, masks):
    found = {}
    for k, row in enumerate(rows):
        if row[0] == "tick":
            found[row[1]] = masks.get(k, 0)
    return found


def mark_reached(masks, flows, start, bit):
    due = [start]
    while due:
        head = due.pop()
        mask = masks.get(head, 0)
        if (mask & bit) == 0:
            masks[head] = mask | bit
            due.extend(flows[head])


def flows_of(rows):
    # Of each row that begins a statement, and of each jump and back row, where a phase goes on behind its last row.
    calls = rows_behind_calls(rows)
    flows = {}
    head = 0
    for k, row in enumerate(rows):
        if row[0] in ("tick", "jump", "back"):
            head = k
        flows[head] = phase_rows(rows, k, calls)
    return flows


def phase_rows(rows, k, calls):
    kind = rows[k][0]
    if kind in ("meet", "join"):
        return []
    if kind == "call":
        return [rows[k][5]]
    if kind == "back":
        return calls.get(k, [])
    return next_rows(rows, k)


def rows_behind_calls(rows):
    # Each def ends with the one back row that it has.
    back_of = {}
    first = 0
    for k, row in enumerate(rows):
        if row[0] == "back":
            back_of[first] = k
            first = k + 1
    found = {}
    for k, row in enumerate(rows):
        if row[0] == "call":
            found.setdefault(back_of[row[5]], []).append(k + 1)
    return found
