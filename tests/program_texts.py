"""Program texts for tests: put together by a seeded source, so each seed tells the same text at each run."""

import random

WORKINGS = ("+", "-", "*", "div", "rem", "<", "=")
JOINTS = ("sum", "most", "least", "ahead")
NAMES = ("a", "b", "c", "x", "y", "count")


def texts(*lines):
    return "\n".join(lines)


def main(*lines):
    return texts("def main", *lines, "end")


class Writer:
    """Writes a program's text that is read without a refusal, whatever the seed."""

    def __init__(self, seed, own=0.3, most_lines=60, kinds=None):
        self.source = random.Random(seed)
        self.own = own
        self.left = most_lines
        self.kinds = kinds
        self.lines = []
        self.defs = {}

    def pick(self, things):
        return self.source.choice(things)

    def expression(self, deep):
        kind = self.pick(("leaf", "leaf", "working", "box", "place")) if deep > 0 else "leaf"
        if kind == "working":
            return f"{self.pick(WORKINGS)} {self.expression(deep - 1)} {self.expression(deep - 1)}"
        if kind == "box":
            return "box " + self.expression(deep - 1)
        if kind == "place" and deep > 1:
            return self.pick(("box lane", "box + lane 1", "box + 2 lane", "box 3", "box 0"))
        if self.source.random() < self.own:
            return self.pick(("lane", "mine"))
        return self.pick(("lanes", "0", "1", "2", "-5", "7") + NAMES)

    def add(self, line):
        self.lines.append(line)
        self.left -= 1

    def statement(self, nest, in_while, in_main):
        kinds = ["set", "set", "put", "tell", "if", "if", "while", "call", "join", "meet", "stop"]
        kinds += ["break", "again"] if in_while else []
        kinds += [] if in_main else ["return"]
        kinds = [kind for kind in kinds if self.kinds is None or kind in self.kinds]
        kind = self.pick(kinds)
        if kind in ("if", "while"):
            if nest < 5 and self.left > 6:
                self.block(kind, nest, in_while, in_main)
            return
        self.add(self.simple(kind))

    def simple(self, kind):
        deep = self.pick((0, 1, 1, 2, 3))
        if kind == "set":
            return f"set {self.pick(NAMES)} {self.expression(deep)}"
        if kind == "put":
            place = self.pick(("lane", "+ lane 1", "+ -1 lane", "2", "0", self.expression(deep)))
            return f"put {place} {self.expression(1)}"
        if kind in ("tell", "return"):
            return f"{kind} {self.expression(deep)}"
        if kind == "call":
            called = self.pick(sorted(set(self.defs) - {"main"}) or ["main"])
            if called == "main":
                return "meet" if self.kinds is None or "meet" in self.kinds else "tell 1"
            parts = [self.expression(1) for each in range(self.defs[called])]
            return " ".join(["call", self.pick(NAMES), called] + parts)
        if kind == "join":
            return f"join {self.pick(NAMES)} {self.pick(JOINTS)} {self.expression(deep)}"
        return kind

    def block(self, kind, nest, in_while, in_main):
        self.add(f"{kind} {self.expression(self.pick((0, 0, 1, 2)))}")
        self.body(nest + 1, in_while or kind == "while", in_main)
        if kind == "if" and self.source.random() < 0.5:
            self.add("else")
            self.body(nest + 1, in_while, in_main)
        self.add("end")

    def body(self, nest, in_while, in_main):
        for each in range(self.pick((0, 1, 1, 2, 3))):
            if self.left > 8:
                self.statement(nest, in_while, in_main)

    def text(self):
        names = ["main"] + ["f", "g", "h", "lonely"][:self.source.randrange(5)]
        self.source.shuffle(names)
        self.defs = {name: 0 if name == "main" else self.source.randrange(4) for name in names}
        for name in names:
            params = self.source.sample(NAMES, self.defs[name])
            self.add(" ".join(["def", name] + params))
            for each in range(self.source.randrange(1, 4)):
                self.body(0, False, name == "main")
            self.add("end")
        return "\n".join(self.lines)


def program_text(seed, own=0.3, most_lines=60, kinds=None):
    return Writer(seed, own, most_lines, kinds).text()


class LetWriter:
    """Writes the text of a program that is let, whatever the seed.

    The names s, t and u are given the same numbers by all lanes, the names a, b and c are each lane's own. An own way
    is one that lanes may take unlike: in it there is no meeting. Lanes put to box `lane` alone and read the boxes from
    8 on, which nobody puts to; with a chance of wild they touch any box. So a calm program (wild 0) never clashes.
    """

    ALIKE, OWN = ("s", "t", "u"), ("a", "b", "c")

    def __init__(self, seed, wild=0.0, most_lines=60):
        self.source = random.Random(seed)
        self.wild = wild
        self.left = most_lines
        self.lines = []
        # Of each def but main: are its ways own, and the names of its parameters.
        self.defs = {}

    def pick(self, things):
        return self.source.choice(things)

    def chance(self, share):
        return self.source.random() < share

    def alike(self, deep):
        if deep == 0 or self.chance(0.4):
            return self.pick(self.ALIKE + ("lanes", "0", "1", "2", "3", "-4"))
        if self.chance(0.2):
            return f"box + 8 rem {self.alike(deep - 1)} 4"
        return f"{self.pick(WORKINGS[:3] + WORKINGS[5:])} {self.alike(deep - 1)} {self.alike(deep - 1)}"

    def own(self, deep):
        if deep == 0 or self.chance(0.4):
            return self.pick(self.OWN + ("lane", "lane", "mine", "mine", "lanes", "1", "5"))
        if self.chance(0.3):
            if self.chance(self.wild):
                return self.pick(("box 1", "box rem + lane 1 lanes", "box mine", "box rem a lanes"))
            return self.pick(("box lane", "box + 8 rem lane 3", "box + 8 rem mine 5"))
        word = self.pick(WORKINGS if self.chance(0.1) else WORKINGS[:3] + WORKINGS[5:])
        return f"{word} {self.own(deep - 1)} {self.own(deep - 1)}"

    def add(self, *lines):
        self.lines.extend(lines)
        self.left -= len(lines)

    def statement(self, own, loop, nest, name):
        kinds = ["set", "set", "put", "tell", "tell", "if", "if", "if", "while", "call"]
        kinds += ["own set"] if own else ["alike set", "join", "join", "meet", "exchange"]
        kinds += ["break", "again"] if loop is not None and (loop or not own) else []
        kinds += ["return"] if name != "main" and (not own or self.defs[name][0]) else []
        kinds += ["stop"] if self.chance(0.2) else []
        kind = self.pick(kinds)
        if kind in ("if", "while"):
            if nest < 5 and self.left > 8:
                self.block(kind, own, loop, nest, name)
        elif kind == "call":
            self.call(own)
        else:
            self.add(*self.simple(kind))

    def simple(self, kind):
        if kind in ("set", "own set"):
            return [f"set {self.pick(self.OWN)} {self.own(2)}"]
        if kind == "alike set":
            return [f"set {self.pick(self.ALIKE)} {self.alike(2)}"]
        if kind == "put":
            place = self.pick(("0", "mine", "rem + lane 1 lanes", "+ lane 1")) if self.chance(self.wild) else "lane"
            return [f"put {place} {self.own(2)}"]
        if kind in ("tell", "return"):
            return [f"{kind} {self.own(2)}"]
        if kind == "join":
            word = self.pick(JOINTS)
            return [f"join {self.pick(self.OWN if word == 'ahead' else self.ALIKE)} {word} {self.own(2)}"]
        if kind == "exchange":
            return [f"put lane {self.own(1)}", "meet", f"set {self.pick(self.OWN)} box rem + lane 1 lanes", "meet"]
        return [kind]

    def call(self, own):
        names = [name for name in sorted(self.defs) if self.defs[name][0] or not own]
        if names:
            name = self.pick(names)
            parts = [self.alike(1) if param in self.ALIKE else self.own(1) for param in self.defs[name][1]]
            self.add(" ".join(["call", self.pick(self.OWN), name] + parts))

    def block(self, kind, own, loop, nest, name):
        inner = own or self.chance(0.7)
        expression = self.own(1) if inner else self.alike(1)
        if kind == "while":
            count = self.pick(self.OWN if inner else self.ALIKE)
            self.add(f"set {count} rem {expression} 4", f"while {count}")
            if self.chance(0.8):
                self.add(f"set {count} - {count} 1")
            self.body(inner, inner, nest + 1, name)
        else:
            self.add(f"if {expression}")
            self.body(inner, loop, nest + 1, name)
            if self.chance(0.5):
                self.add("else")
                self.body(inner, loop, nest + 1, name)
        self.add("end")

    def body(self, own, loop, nest, name):
        for each in range(self.pick((0, 1, 2, 3, 4))):
            if self.left > 10:
                self.statement(own, loop, nest, name)

    def text(self):
        self.defs = {
            "f": (True, self.source.sample(self.OWN, self.source.randrange(4))),
            "g": (True, self.source.sample(self.OWN, self.source.randrange(4))),
            "h": (False, self.source.sample(self.ALIKE + self.OWN, self.source.randrange(7))),
        }
        names = ["main"] + self.source.sample(sorted(self.defs), self.source.randrange(4))
        self.defs = {name: self.defs[name] for name in names if name != "main"}
        self.source.shuffle(names)
        # The others have a third of the lines, lest main be left without.
        most, others = self.left, self.left // 3
        for name in names:
            own, params = self.defs.get(name, (False, []))
            self.left = most - others if name == "main" else others // (len(names) - 1)
            self.add(" ".join(["def", name] + params))
            if name == "main" and self.chance(0.8):
                self.add("set a + lane mine", "set b rem mine 3", "set c < lane 2", "set s 2")
            for each in range(4 if name == "main" else 1):
                self.body(own, None, 0, name)
            self.add("end")
        return "\n".join(self.lines)


def let_text(seed, wild=0.0, most_lines=60):
    return LetWriter(seed, wild, most_lines).text()


def broad_text(lines, signs):
    """A text of so many lines, and of about so many signs, in which each line is as broad as it may be."""
    inner = (lines - 2) * [None]
    expression = "0"
    for each in range(5):
        expression = f"+ {expression} {expression}"
    for at in range(len(inner)):
        leaf = f"box {100 + at}"
        each = expression.replace("0", leaf)
        inner[at] = "put " + each + " " + each
    text = "\n".join(["def main"] + inner + ["end"])
    while len(text) > signs:
        at = max(range(len(inner)), key=lambda k: len(inner[k]))
        inner[at] = "tell 1"
        text = "\n".join(["def main"] + inner + ["end"])
    return text
