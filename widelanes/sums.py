"""The numbers of lanes and boxes: their range, and the working of a word on two of them."""

LEAST = -2147483648
SPAN = 4294967296


def wrapped(n):
    # The remainder by a span above 0 is never below 0, so one formula serves both signs of n.
    return (n - LEAST) % SPAN + LEAST


def worked(word, one, other):
    if word in ("div", "rem") and other == 0:
        return None
    return wrapped(unwrapped(word, one, other))


def unwrapped(word, one, other):
    if word == "+":
        return one + other
    if word == "-":
        return one - other
    if word == "*":
        return one * other
    if word == "div":
        return one // other
    if word == "rem":
        return one - other * (one // other)
    if word == "<":
        return 1 if one < other else 0
    return 1 if one == other else 0
