"""Names, numbers and expressions, and how they are written by words with one blank between."""

from widelanes.errors import NoLine
from widelanes.walks import Walk

KEPT = (
    "def", "set", "put", "tell", "if", "else", "while", "end", "break", "again", "call", "return", "stop", "join",
    "meet", "lane", "lanes", "mine", "box", "div", "rem", "sum", "most", "least", "ahead",
)
SIGNS = ("lane", "lanes", "mine")
WORKINGS = ("+", "-", "*", "div", "rem", "<", "=")
LONGEST_NAME = 8
MOST_FIGURES = 9
MOST_DEEP = 6


def is_name(text):
    if text in KEPT or not 1 <= len(text) <= LONGEST_NAME:
        return False
    return all([is_letter(sign) for sign in text])


def is_letter(sign):
    return "a" <= sign <= "z"


def is_figure(sign):
    return "0" <= sign <= "9"


def read_number(text):
    figures = text[1:] if text.startswith("-") else text
    if not 1 <= len(figures) <= MOST_FIGURES or not all([is_figure(sign) for sign in figures]):
        raise NoLine("no number")
    if figures.startswith("0") and text != "0":
        raise NoLine("a number with a nought ahead, or a nought with a sign")
    return int(text)


def words_of(text):
    # Two blanks side by side, and one ahead or behind, leave a word without signs, which is no word of any line.
    return Walk(text.split(" "))


def word_from(words):
    if words.is_over():
        raise NoLine("a word is left out")
    return words.taken()


def check_over(words):
    if not words.is_over():
        raise NoLine("there is a word too many")


def name_from(words):
    word = word_from(words)
    if not is_name(word):
        raise NoLine("no name")
    return word


def read_expression(text):
    words = words_of(text)
    expression = expression_from(words)
    check_over(words)
    return expression


def expression_from(words):
    return part_from(words, MOST_DEEP)


def part_from(words, deep):
    word = word_from(words)
    if word == "box" or word in WORKINGS:
        # Looked at on the way down, so that a text of many such words is refused before it is gone into.
        if deep == 0:
            raise NoLine("an expression is too deep")
        first = part_from(words, deep - 1)
        return (word, first) if word == "box" else (word, first, part_from(words, deep - 1))
    if word in SIGNS:
        return (word,)
    if is_name(word):
        return ("name", word)
    return ("num", read_number(word))


def shown_expression(expression):
    kind = expression[0]
    if kind in SIGNS:
        return kind
    if kind == "num":
        return str(expression[1])
    if kind == "name":
        return expression[1]
    return " ".join([kind] + [shown_expression(part) for part in expression[1:]])


def leaves_of(expression):
    # The parts that have no parts themselves, from left to right.
    if expression[0] != "box" and expression[0] not in WORKINGS:
        return [expression]
    found = []
    for part in expression[1:]:
        found.extend(leaves_of(part))
    return found
