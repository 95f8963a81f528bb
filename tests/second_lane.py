"""A second working of [4], [9], [10] and [21] to [24] for tests: a lane is a generator that goes by the statements.

It shares nothing with the package but the form of programs, and looks at all pairs of touches where it seeks a clash.
"""

FIELDS = ("told", "steps", "end", "brought", "touches", "puts", "lines")
OUTCOME_FIELDS = ("letters", "clash", "ends", "told", "steps", "boxes", "trace")
LEAST, MOST = -2147483648, 2147483647


def wrap(n):
    return ((n + 2 ** 31) & (2 ** 32 - 1)) - 2 ** 31


def work(word, one, other):
    if word in ("div", "rem"):
        if other == 0:
            return None
        return wrap(divmod(one, other)[0 if word == "div" else 1])
    plain = {"+": one + other, "-": one - other, "*": one * other, "<": int(one < other), "=": int(one == other)}
    return wrap(plain[word])


def join(word, brought, lane):
    there = [n for n in brought if n is not None]
    lower = [n for n in brought[:lane] if n is not None]
    return {"sum": wrap(sum(there)), "most": max(there), "least": min(there), "ahead": wrap(sum(lower))}[word]


class Over(Exception):
    def __init__(self, word):
        super().__init__(word)
        self.word = word


class SecondLane:
    def __init__(self, program, lane, lanes, mine, boxes, most):
        self.defs = {each[0]: each for each in program}
        self.signs = {"lane": lane, "lanes": lanes, "mine": wrap(mine)}
        self.boxes = [wrap(n) for n in boxes]
        self.most = most
        self.told, self.brought, self.lines = [], [], []
        self.touches, self.puts = [[]], [{}]
        self.end = None
        self.way = self.whole_way()
        next(self.way, None)

    def fields(self):
        return {"told": self.told, "steps": len(self.lines), "end": self.end, "brought": self.brought,
                "touches": self.touches, "puts": self.puts, "lines": self.lines}

    def take(self, letter):
        """Goes on behind the meeting to the next one, or to the end."""
        try:
            self.way.send(letter)
        except StopIteration:
            pass

    def whole_way(self):
        try:
            yield from self.body(self.defs["main"][2], {}, 1)
            self.end = ("done", self.defs["main"][4])
        except Over as over:
            self.end = (over.word, self.line)

    def body(self, statements, names, deep):
        for statement in statements:
            signal = yield from self.statement(statement, names, deep)
            if signal is not None:
                return signal
        return None

    def tick(self, line):
        self.line = line
        if len(self.lines) == self.most:
            raise Over("tired")
        self.lines.append(line)

    def statement(self, statement, names, deep):
        kind, line = statement[:2]
        if kind == "while":
            return (yield from self.loop(statement, names, deep))
        self.tick(line)
        if kind == "set":
            names[statement[2]] = self.value(statement[3], names)
        elif kind == "put":
            place, number = self.value(statement[2], names), self.value(statement[3], names)
            self.touch("put", place)
            self.boxes[place] = self.puts[-1][place] = number
        elif kind == "tell":
            self.told.append(self.value(statement[2], names))
        elif kind == "if":
            return (yield from self.body((statement[3] if self.value(statement[2], names) else statement[4]) or [],
                                         names, deep))
        elif kind == "call":
            yield from self.call(statement, names, deep)
        elif kind in ("join", "meet"):
            yield from self.meeting(statement, names)
        elif kind == "return":
            return ("return", self.value(statement[2], names))
        elif kind == "stop":
            raise Over("done")
        else:
            return (kind, None)
        return None

    def loop(self, statement, names, deep):
        while True:
            self.tick(statement[1])
            if not self.value(statement[2], names):
                return None
            signal = yield from self.body(statement[3], names, deep)
            if signal is not None and signal[0] == "break":
                return None
            if signal is not None and signal[0] == "return":
                return signal

    def call(self, statement, names, deep):
        numbers = [self.value(each, names) for each in statement[4]]
        if deep == 6:
            raise Over("deep")
        name, params, body = self.defs[statement[3]][:3]
        signal = yield from self.body(body, dict(zip(params, numbers)), deep + 1)
        names[statement[2]] = 0 if signal is None else signal[1]

    def meeting(self, statement, names):
        number = self.value(statement[4], names) if statement[0] == "join" else 0
        self.brought.append((statement[1], number))
        letter = yield
        if statement[0] == "join":
            names[statement[2]] = join(statement[3], letter[1], self.signs["lane"])
        self.boxes = list(letter[2])
        self.touches.append([])
        self.puts.append({})

    def value(self, expression, names):
        kind = expression[0]
        if kind == "num":
            return expression[1]
        if kind == "name":
            return names.get(expression[1], 0)
        if kind in self.signs:
            return self.signs[kind]
        parts = [self.value(part, names) for part in expression[1:]]
        if kind == "box":
            self.touch("get", parts[0])
            return self.boxes[parts[0]]
        number = work(kind, *parts)
        if number is None:
            raise Over("nought")
        return number

    def touch(self, word, place):
        if place not in range(len(self.boxes)):
            raise Over("outside")
        self.touches[-1].append((word, place, self.line))


def second_alone(program, lane, lanes, mine, boxes, most, letters):
    goer = SecondLane(program, lane, lanes, mine, boxes, most)
    for letter in letters:
        goer.take(letter)
    return goer.fields()


def all_clashes(touches):
    """All clashes of a phase; touches is a dict of lanes with the touches that each of them made in it."""
    found = set()
    for lane in touches:
        for other in touches:
            if lane < other:
                for word, place, line in set(touches[lane]):
                    for other_word, other_place, other_line in set(touches[other]):
                        if place == other_place and "put" in (word, other_word):
                            found.add((place, lane, line, other, other_line))
    return found


def second_together(program, mines, boxes, most):
    lanes = [SecondLane(program, lane, len(mines), mine, boxes, most) for lane, mine in enumerate(mines)]
    held = [wrap(n) for n in boxes]
    letters, phase = [], 0
    while True:
        there = {lane: goer for lane, goer in enumerate(lanes) if len(goer.touches) > phase}
        found = all_clashes({lane: goer.touches[phase] for lane, goer in there.items()})
        if found:
            return dict.fromkeys(OUTCOME_FIELDS[2:], []) | {"letters": letters, "clash": min(found)}
        for goer in there.values():
            for place, number in goer.puts[phase].items():
                held[place] = number
        waiting = {lane: goer for lane, goer in there.items() if goer.end is None}
        if not waiting:
            return {"letters": letters, "clash": None, "ends": [goer.end for goer in lanes],
                    "told": [goer.told for goer in lanes], "steps": [len(goer.lines) for goer in lanes],
                    "boxes": held, "trace": []}
        lines = {goer.brought[-1][0] for goer in waiting.values()}
        assert len(lines) == 1, "lanes of a program that is let wait at one meeting"
        brought = [waiting[lane].brought[-1][1] if lane in waiting else None for lane in range(len(lanes))]
        letters.append((lines.pop(), brought, list(held)))
        for goer in waiting.values():
            goer.take(letters[-1])
        phase += 1
