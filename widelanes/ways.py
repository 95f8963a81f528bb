"""The ways from row to row within a def, and where they come together again."""


def next_rows(rows, k):
    row = rows[k]
    if row[0] == "back":
        return []
    if row[0] == "jump":
        return [row[2]]
    if row[0] == "split":
        return sorted(set([k + 1, row[3]]))
    return [k + 1]


def meets(rows):
    knots = knots_of(rows)
    bits = {}
    for at, knot in enumerate(knots):
        bits[knot] = 1 << at
    masks = masks_of(rows, knots, bits)
    # No two knots have the same mask, and that of a split's meeting row is the split's own without the split.
    knot_of = {}
    for knot in knots:
        knot_of[masks[knot]] = knot
    return [
        knot_of[masks[k] - bits[k]] if row[0] == "split" else None
        for k, row in enumerate(rows)
    ]


def knots_of(rows):
    # Between these rows one row leads to one other alone, so a meeting row is one of these.
    found = {}
    for k, row in enumerate(rows):
        if row[0] in ("split", "back"):
            found[k] = True
        if row[0] in ("split", "jump"):
            for other in next_rows(rows, k):
                found[other] = True
    return sorted(found)


def next_knots(rows, knot, bits):
    found = next_rows(rows, knot)
    while found and found[0] not in bits:
        found = next_rows(rows, found[0])
    return found


def masks_of(rows, knots, bits):
    # The mask of a knot tells all knots through which each way from it to the back row goes, itself too.
    every = sum(bits.values())
    behind = {}
    masks = {}
    for knot in knots:
        behind[knot] = next_knots(rows, knot, bits)
        masks[knot] = every
    changed = True
    while changed:
        changed = False
        for knot in reversed(knots):
            mask = bits[knot] | shared_mask(masks, behind[knot])
            if mask != masks[knot]:
                masks[knot] = mask
                changed = True
    return masks


def shared_mask(masks, knots):
    if not knots:
        return 0
    mask = masks[knots[0]]
    for knot in knots:
        mask = mask & masks[knot]
    return mask
