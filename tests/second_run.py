"""A second working of [14], [26] and [27] for tests: a group is a call of a function, not a thing on a pile.

`second_run` tells what a run must tell, `second_way` the rows that one lane comes to by itself, given letters.
"""

from second_lane import OUTCOME_FIELDS, join, work, wrap

from widelanes.rows import made
from widelanes.ways import meets


class Clash(Exception):
    pass


class RowLane:
    def __init__(self, lane, lanes, mine, most):
        self.lane = lane
        self.signs = {"lane": lane, "lanes": lanes, "mine": wrap(mine)}
        self.most = most
        self.slots = [[0] * 200]
        self.told, self.steps, self.end = [], 0, None

    def plain(self, row, touched):
        """Does a row that leads to the next one alone; touched(word, place, number) does a touch."""
        kind, line, slots = row[0], row[1], self.slots[-1]
        if kind == "tick":
            if self.steps == self.most:
                self.end = ("tired", line)
            else:
                self.steps += 1
        elif kind in ("num", "copy", "sign"):
            slots[row[2]] = row[3] if kind == "num" else slots[row[3]] if kind == "copy" else self.signs[row[3]]
        elif kind == "op":
            number = work(row[3], slots[row[4]], slots[row[5]])
            if number is None:
                self.end = ("nought", line)
            slots[row[2]] = number
        elif kind in ("get", "put"):
            place = slots[row[3 if kind == "get" else 2]]
            number = touched(kind, place, None if kind == "get" else slots[row[3]])
            if number is None:
                self.end = ("outside", line)
            elif kind == "get":
                slots[row[2]] = number
        elif kind == "tell":
            self.told.append(slots[row[2]])
        elif kind == "stop":
            self.end = ("done", line)

    def enter(self, row):
        slots = self.slots[-1]
        self.slots.append([0] + slots[row[3]:row[3] + row[4]] + [0] * 200)

    def leave(self, call):
        returned = self.slots.pop()[0]
        self.slots[-1][call[2]] = returned


class SecondRun:
    def __init__(self, program, mines, boxes, most, picks):
        self.rows = made(program)
        self.meets = meets(self.rows)
        self.lanes = [RowLane(lane, len(mines), mine, most) for lane, mine in enumerate(mines)]
        self.boxes = [wrap(n) for n in boxes]
        self.picks = list(picks or [])
        self.used = 0
        self.touches, self.letters, self.trace = [], [], []
        self.clash = None

    def touched(self, lane, line):
        def touch(word, place, number):
            if not 0 <= place < len(self.boxes):
                return None
            for other_word, other, other_place, other_line in self.touches:
                if other != lane and other_place == place and (word == "put" or other_word == "put"):
                    low, high = sorted([(lane, line), (other, other_line)])
                    self.clash = (place,) + low + high
                    raise Clash
            self.touches.append((word, lane, place, line))
            if word == "put":
                self.boxes[place] = number
            return self.boxes[place]
        return touch

    def group(self, lanes, k, calls, goal):
        while True:
            lanes = [lane for lane in lanes if lane.end is None]
            depth = len(calls) + 1
            if not lanes or (k, depth) == goal:
                return
            row = self.rows[k]
            self.trace.append((k, depth, sum(2 ** lane.lane for lane in lanes)))
            if row[0] == "split":
                k = self.split(lanes, k, calls)
            elif row[0] == "jump":
                k = row[2]
            elif row[0] == "call" and depth < 6:
                for lane in lanes:
                    lane.enter(row)
                k, calls = row[5], calls + [k]
            elif row[0] == "back" and calls:
                for lane in lanes:
                    lane.leave(self.rows[calls[-1]])
                k, calls = calls[-1] + 1, calls[:-1]
            else:
                self.straight(lanes, row)
                k += 1

    def split(self, lanes, k, calls):
        row = self.rows[k]
        nought = [lane for lane in lanes if lane.slots[-1][row[2]] == 0]
        others = [lane for lane in lanes if lane not in nought]
        if not nought or not others:
            return row[3] if nought else k + 1
        goal = (self.meets[k], len(calls) + 1)
        pick = self.picks[self.used % len(self.picks)] if self.picks else 0
        self.used += 1
        parted = [(others, k + 1), (nought, row[3])]
        for some, first in parted if pick % 2 == 0 else parted[::-1]:
            self.group(some, first, calls, goal)
        return self.meets[k]

    def straight(self, lanes, row):
        if row[0] in ("meet", "join"):
            brought = [None] * len(self.lanes)
            for lane in lanes:
                brought[lane.lane] = lane.slots[-1][row[4]] if row[0] == "join" else 0
            self.letters.append((row[1], brought, list(self.boxes)))
            self.touches = []
            for lane in lanes if row[0] == "join" else ():
                lane.slots[-1][row[2]] = join(row[3], brought, lane.lane)
            return
        for lane in lanes:
            if row[0] in ("call", "back"):
                lane.end = ("deep" if row[0] == "call" else "done", row[1])
            lane.plain(row, self.touched(lane.lane, row[1]))


def second_run(program, mines, boxes, most, picks):
    run = SecondRun(program, mines, boxes, most, picks)
    try:
        run.group(run.lanes, 0, [], None)
    except Clash:
        return dict.fromkeys(OUTCOME_FIELDS[2:], []) | {"letters": run.letters, "clash": run.clash}
    return {"letters": run.letters, "clash": None, "ends": [lane.end for lane in run.lanes],
            "told": [lane.told for lane in run.lanes], "steps": [lane.steps for lane in run.lanes],
            "boxes": run.boxes, "trace": run.trace}


def second_way(program, lane, lanes, mine, boxes, most, letters):
    """The (row, depth) of each row that a lane comes to alone, up to a meeting for which there is no letter."""
    rows, goer, held = made(program), RowLane(lane, lanes, mine, most), [wrap(n) for n in boxes]
    way, calls, k, left = [], [], 0, list(letters)

    def touch(word, place, number):
        if not 0 <= place < len(held):
            return None
        if word == "put":
            held[place] = number
        return held[place]

    while goer.end is None:
        row = rows[k]
        if row[0] in ("meet", "join"):
            if not left:
                return way
            letter = left.pop(0)
            held[:] = letter[2]
            if row[0] == "join":
                goer.slots[-1][row[2]] = join(row[3], letter[1], lane)
        way.append((k, len(calls) + 1))
        if row[0] == "split":
            k = k + 1 if goer.slots[-1][row[2]] else row[3]
        elif row[0] == "jump":
            k = row[2]
        elif row[0] == "call" and len(calls) < 5:
            goer.enter(row)
            calls.append(k)
            k = row[5]
        elif row[0] == "back" and calls:
            k = calls.pop()
            goer.leave(rows[k])
            k += 1
        elif row[0] in ("call", "back"):
            goer.end = ("deep" if row[0] == "call" else "done", row[1])
        else:
            goer.plain(row, touch)
            k += 1
    return way
