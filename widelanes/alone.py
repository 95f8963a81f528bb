"""One lane alone: it goes by the statements, in boxes of its own, from meeting to meeting."""

from widelanes.frames import DEEPEST, Frame
from widelanes.joints import joined
from widelanes.story import Story
from widelanes.sums import worked, wrapped
from widelanes.words import SIGNS


class Nought(Exception):
    pass


class Outside(Exception):
    pass


class Goer:
    def __init__(self, program, lane, lanes, mine, boxes, most):
        self.defs = {}
        for each in program:
            self.defs[each[0]] = each
        self.lane = lane
        self.signs = {"lane": lane, "lanes": lanes, "mine": wrapped(mine)}
        self.boxes = [wrapped(number) for number in boxes]
        self.most = most
        self.frames = [Frame(self.defs["main"][2], {}, None)]
        self.line = None
        # The meeting at which the lane waits for a letter.
        self.meeting = None
        self.story = Story()
        self.story.begin_phase()

    def go(self):
        while self.story.end is None and self.meeting is None:
            statement = self.frames[-1].statement()
            if statement is None:
                self.end_def()
            else:
                self.step(statement)

    def end_def(self):
        if len(self.frames) == 1:
            self.story.finish("done", self.defs["main"][4])
        else:
            self.go_back(0)

    def step(self, statement):
        self.line = statement[1]
        if self.story.steps >= self.most:
            self.story.finish("tired", self.line)
            return
        self.story.add_step(self.line)
        try:
            self.do(statement)
        except Nought:
            self.story.finish("nought", self.line)
        except Outside:
            self.story.finish("outside", self.line)

    def do(self, statement):
        kind = statement[0]
        if kind == "while":
            self.do_while(statement)
            return
        self.frames[-1].pass_by()
        if kind == "set":
            self.give(statement[2], self.reckoned(statement[3]))
        elif kind == "put":
            self.do_put(statement)
        elif kind == "tell":
            self.story.told.append(self.reckoned(statement[2]))
        elif kind == "if":
            self.do_if(statement)
        elif kind == "call":
            self.do_call(statement)
        elif kind in ("meet", "join"):
            self.come_to(statement)
        else:
            self.leave(statement)

    def do_while(self, statement):
        frame = self.frames[-1]
        if self.reckoned(statement[2]) != 0:
            frame.enter_loop(statement[3])
        else:
            frame.pass_by()

    def do_if(self, statement):
        body = statement[3] if self.reckoned(statement[2]) != 0 else statement[4]
        if body is not None:
            self.frames[-1].enter(body)

    def do_put(self, statement):
        place = self.reckoned(statement[2])
        number = self.reckoned(statement[3])
        self.touch("put", place)
        self.boxes[place] = number
        self.story.add_put(place, number)

    def do_call(self, statement):
        numbers = [self.reckoned(expression) for expression in statement[4]]
        if len(self.frames) == DEEPEST:
            self.story.finish("deep", self.line)
            return
        called = self.defs[statement[3]]
        self.frames.append(Frame(called[2], dict(zip(called[1], numbers)), statement[2]))

    def come_to(self, statement):
        number = self.reckoned(statement[4]) if statement[0] == "join" else 0
        self.story.brought.append((self.line, number))
        self.meeting = statement

    def leave(self, statement):
        kind = statement[0]
        frame = self.frames[-1]
        if kind == "return":
            self.go_back(self.reckoned(statement[2]))
        elif kind == "stop":
            self.story.finish("done", self.line)
        else:
            frame.leave_body()
            if kind == "break":
                frame.pass_by()

    def go_back(self, number):
        left = self.frames.pop()
        self.give(left.given, number)

    def give(self, name, number):
        self.frames[-1].names[name] = number

    def take(self, letter):
        if self.meeting[0] == "join":
            self.give(self.meeting[2], joined(self.meeting[3], letter[1], self.lane))
        self.boxes = list(letter[2])
        self.meeting = None
        self.story.begin_phase()

    def reckoned(self, expression):
        kind = expression[0]
        if kind == "num":
            return expression[1]
        if kind == "name":
            return self.frames[-1].names.get(expression[1], 0)
        if kind in SIGNS:
            return self.signs[kind]
        if kind == "box":
            return self.got(self.reckoned(expression[1]))
        number = worked(kind, self.reckoned(expression[1]), self.reckoned(expression[2]))
        if number is None:
            raise Nought("a working that has no number")
        return number

    def got(self, place):
        self.touch("get", place)
        return self.boxes[place]

    def touch(self, word, place):
        if not 0 <= place < len(self.boxes):
            raise Outside("a place of no box")
        self.story.add_touch(word, place, self.line)


def alone(program, lane, lanes, mine, boxes, most, letters):
    goer = Goer(program, lane, lanes, mine, boxes, most)
    goer.go()
    for letter in letters:
        if goer.meeting is not None:
            goer.take(letter)
            goer.go()
    return goer.story
