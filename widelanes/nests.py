"""How the lines of a program may stand in one another."""

from widelanes.errors import NoNest

MOST_ROUND = 5


class Nest:
    def __init__(self):
        # Of each def, if and while that is open its first word, from the outermost on;
        # of an if that has its else that word in its place.
        self.opened = []
        self.in_main = False

    def check(self, line):
        kind = line[0]
        if kind == "def":
            self.check_def(line[1])
        elif not self.opened:
            raise NoNest("a line outside all defs")
        elif kind == "else":
            self.check_else()
        elif kind == "end":
            self.opened.pop()
        elif kind in ("if", "while"):
            self.check_block(kind)
        elif kind in ("break", "again") and "while" not in self.opened:
            raise NoNest("a break or again in no while")
        elif kind == "return" and self.in_main:
            raise NoNest("a return in main")

    def check_def(self, name):
        if self.opened:
            raise NoNest("a def in a def")
        self.opened.append("def")
        self.in_main = name == "main"

    def check_else(self):
        if self.opened[-1] != "if":
            raise NoNest("an else that is not straight in an if without one")
        self.opened[-1] = "else"

    def check_block(self, kind):
        # The def that is open is the one that is neither if nor while.
        if len(self.opened) > MOST_ROUND:
            raise NoNest("an if or while within too many others")
        self.opened.append(kind)


def check_nests(lines):
    nest = Nest()
    for line in lines:
        nest.check(line)
    if nest.opened:
        raise NoNest("something is not closed")
