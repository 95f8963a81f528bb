"""The lines of a program: each is a tuple of its first word and of what stands behind it."""

from widelanes.errors import NoLine
from widelanes.words import check_over, expression_from, name_from, shown_expression, word_from, words_of

FORMS = {
    "def": ("name", "names"),
    "set": ("name", "expression"),
    "put": ("expression", "expression"),
    "tell": ("expression",),
    "if": ("expression",),
    "else": (),
    "while": ("expression",),
    "end": (),
    "break": (),
    "again": (),
    "call": ("name", "name", "expressions"),
    "return": ("expression",),
    "stop": (),
    "join": ("name", "joint", "expression"),
    "meet": (),
}
JOINTS = ("sum", "most", "least", "ahead")
MOST_PARTS = 6


def read_line(text):
    words = words_of(text)
    kind = word_from(words)
    if kind not in FORMS:
        raise NoLine("no line begins so")
    parts = [read_part(form, words) for form in FORMS[kind]]
    check_over(words)
    return (kind,) + tuple(parts)


def read_part(form, words):
    if form == "names":
        return several(name_from, words)
    if form == "expressions":
        return several(expression_from, words)
    if form == "name":
        return name_from(words)
    if form == "joint":
        return joint_from(words)
    return expression_from(words)


def several(part_from, words):
    parts = []
    # One more than the most is left to stand, and is then a word too many.
    while len(parts) < MOST_PARTS and not words.is_over():
        parts.append(part_from(words))
    return parts


def joint_from(words):
    word = word_from(words)
    if word not in JOINTS:
        raise NoLine("numbers are not joined so")
    return word


def shown_line(line):
    shown = [line[0]]
    # What stands behind the parts that the form names, as the body of an if, is of other lines.
    for form, part in zip(FORMS[line[0]], line[1:]):
        shown.extend(shown_part(form, part))
    return " ".join(shown)


def shown_part(form, part):
    if form == "expression":
        return [shown_expression(part)]
    if form == "expressions":
        return [shown_expression(each) for each in part]
    if form == "names":
        return list(part)
    return [part]
