"""Program texts for tests: put together by a seeded source, so each seed tells the same text at each run."""

import random

WORKINGS = ("+", "-", "*", "div", "rem", "<", "=")
JOINTS = ("sum", "most", "least", "ahead")
NAMES = ("a", "b", "c", "x", "y", "count")


def texts(*lines):
    return "\n".join(lines)


def main(*lines):
    return texts("def main", *lines, "end")


class Writer:
    """Writes a program's text that is read without a refusal, whatever the seed."""

    def __init__(self, seed, own=0.3, most_lines=60, kinds=None):
        self.source = random.Random(seed)
        self.own = own
        self.left = most_lines
        self.kinds = kinds
        self.lines = []
        self.defs = {}

    def pick(self, things):
        return self.source.choice(things)

    def expression(self, deep):
        kind = self.pick(("leaf", "leaf", "working", "box", "place")) if deep > 0 else "leaf"
        if kind == "working":
            return f"{self.pick(WORKINGS)} {self.expression(deep - 1)} {self.expression(deep - 1)}"
        if kind == "box":
            return "box " + self.expression(deep - 1)
        if kind == "place" and deep > 1:
            return self.pick(("box lane", "box + lane 1", "box + 2 lane", "box 3", "box 0"))
        if self.source.random() < self.own:
            return self.pick(("lane", "mine"))
        return self.pick(("lanes", "0", "1", "2", "-5", "7") + NAMES)

    def add(self, line):
        self.lines.append(line)
        self.left -= 1

    def statement(self, nest, in_while, in_main):
        kinds = ["set", "set", "put", "tell", "if", "if", "while", "call", "join", "meet", "stop"]
        kinds += ["break", "again"] if in_while else []
        kinds += [] if in_main else ["return"]
        kinds = [kind for kind in kinds if self.kinds is None or kind in self.kinds]
        kind = self.pick(kinds)
        if kind in ("if", "while"):
            if nest < 5 and self.left > 6:
                self.block(kind, nest, in_while, in_main)
            return
        self.add(self.simple(kind))

    def simple(self, kind):
        deep = self.pick((0, 1, 1, 2, 3))
        if kind == "set":
            return f"set {self.pick(NAMES)} {self.expression(deep)}"
        if kind == "put":
            place = self.pick(("lane", "+ lane 1", "+ -1 lane", "2", "0", self.expression(deep)))
            return f"put {place} {self.expression(1)}"
        if kind in ("tell", "return"):
            return f"{kind} {self.expression(deep)}"
        if kind == "call":
            called = self.pick(sorted(set(self.defs) - {"main"}) or ["main"])
            if called == "main":
                return "meet" if self.kinds is None or "meet" in self.kinds else "tell 1"
            parts = [self.expression(1) for each in range(self.defs[called])]
            return " ".join(["call", self.pick(NAMES), called] + parts)
        if kind == "join":
            return f"join {self.pick(NAMES)} {self.pick(JOINTS)} {self.expression(deep)}"
        return kind

    def block(self, kind, nest, in_while, in_main):
        self.add(f"{kind} {self.expression(self.pick((0, 0, 1, 2)))}")
        self.body(nest + 1, in_while or kind == "while", in_main)
        if kind == "if" and self.source.random() < 0.5:
            self.add("else")
            self.body(nest + 1, in_while, in_main)
        self.add("end")

    def body(self, nest, in_while, in_main):
        for each in range(self.pick((0, 1, 1, 2, 3))):
            if self.left > 8:
                self.statement(nest, in_while, in_main)

    def text(self):
        names = ["main"] + ["f", "g", "h", "lonely"][:self.source.randrange(5)]
        self.source.shuffle(names)
        self.defs = {name: 0 if name == "main" else self.source.randrange(4) for name in names}
        for name in names:
            params = self.source.sample(NAMES, self.defs[name])
            self.add(" ".join(["def", name] + params))
            for each in range(self.source.randrange(1, 4)):
                self.body(0, False, name == "main")
            self.add("end")
        return "\n".join(self.lines)


def program_text(seed, own=0.3, most_lines=60, kinds=None):
    return Writer(seed, own, most_lines, kinds).text()


def broad_text(lines, signs):
    """A text of so many lines, and of about so many signs, in which each line is as broad as it may be."""
    inner = (lines - 2) * [None]
    expression = "0"
    for each in range(5):
        expression = f"+ {expression} {expression}"
    for at in range(len(inner)):
        leaf = f"box {100 + at}"
        each = expression.replace("0", leaf)
        inner[at] = "put " + each + " " + each
    text = "\n".join(["def main"] + inner + ["end"])
    while len(text) > signs:
        at = max(range(len(inner)), key=lambda k: len(inner[k]))
        inner[at] = "tell 1"
        text = "\n".join(["def main"] + inner + ["end"])
    return text
