"""A lane of a run, and what a row does with its slots."""

from widelanes.sums import worked


class Runner:
    def __init__(self, lane, lanes, mine):
        self.lane = lane
        self.signs = {"lane": lane, "lanes": lanes, "mine": mine}
        # A frame of slots for each def that is being done, the innermost last. A slot that is not in it is 0.
        self.frames = [{}]
        self.told = []
        self.steps = 0
        self.end = None

    def slot(self, at):
        return self.frames[-1].get(at, 0)

    def give(self, at, number):
        self.frames[-1][at] = number

    def finish(self, word, line):
        self.end = (word, line)

    def go_deeper(self, first, many):
        frame = {}
        # Slot 0 is what the def returns, so its parameters begin with slot 1.
        for at in range(many):
            frame[1 + at] = self.slot(first + at)
        self.frames.append(frame)

    def go_back(self, at):
        returned = self.slot(0)
        self.frames.pop()
        self.give(at, returned)


def do_row(runner, row, most, shared):
    # Rows that a lane does by itself; those that lead elsewhere and those of meetings are done by groups.
    kind = row[0]
    if kind == "tick":
        do_tick(runner, row, most)
    elif kind == "num":
        runner.give(row[2], row[3])
    elif kind == "copy":
        runner.give(row[2], runner.slot(row[3]))
    elif kind == "sign":
        runner.give(row[2], runner.signs[row[3]])
    elif kind == "op":
        do_op(runner, row)
    elif kind == "get":
        do_get(runner, row, shared)
    elif kind == "put":
        do_put(runner, row, shared)
    elif kind == "tell":
        runner.told.append(runner.slot(row[2]))
    else:
        runner.finish("done", row[1])


def do_tick(runner, row, most):
    if runner.steps < most:
        runner.steps += 1
    else:
        runner.finish("tired", row[1])


def do_op(runner, row):
    number = worked(row[3], runner.slot(row[4]), runner.slot(row[5]))
    if number is None:
        runner.finish("nought", row[1])
    else:
        runner.give(row[2], number)


def do_get(runner, row, shared):
    place = runner.slot(row[3])
    if shared.has_box(place):
        runner.give(row[2], shared.taken(runner.lane, place, row[1]))
    else:
        runner.finish("outside", row[1])


def do_put(runner, row, shared):
    place = runner.slot(row[2])
    if shared.has_box(place):
        shared.laid(runner.lane, place, row[1], runner.slot(row[3]))
    else:
        runner.finish("outside", row[1])
