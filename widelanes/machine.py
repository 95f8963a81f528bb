"""All lanes at once: groups of lanes stand on a pile, and the topmost does one row at a time."""

from widelanes.errors import Waits
from widelanes.frames import DEEPEST
from widelanes.joints import joined
from widelanes.marks import is_let
from widelanes.outcome import Outcome
from widelanes.rows import made
from widelanes.runners import Runner, do_row
from widelanes.shared import Shared
from widelanes.sums import wrapped
from widelanes.ways import meets


class Group:
    def __init__(self, row, calls, runners, goal):
        self.row = row
        # The rows of the calls that are being done, the innermost last. All lanes of a group have come by the same.
        self.calls = calls
        self.runners = runners
        # The (row, depth) at which the group ends, None for the lowest one.
        self.goal = goal

    def depth(self):
        return len(self.calls) + 1

    def going(self):
        return [runner for runner in self.runners if runner.end is None]

    def is_there(self):
        return (self.row, self.depth()) == self.goal


class Pile:
    def __init__(self, program, mines, boxes, most, picks):
        self.rows = made(program)
        self.meeting_rows = meets(self.rows)
        self.runners = [Runner(lane, len(mines), wrapped(mine)) for lane, mine in enumerate(mines)]
        self.shared = Shared([wrapped(number) for number in boxes])
        self.most = most
        self.picks = picks
        self.partings = 0
        self.groups = [Group(0, (), self.runners, None)]
        self.letters = []
        self.trace = []

    def go(self):
        # No letter is made in a turn that clashes, so the turn may well be done to its end.
        while self.groups and self.shared.clash is None:
            group = self.groups[-1]
            going = group.going()
            if not going or group.is_there():
                self.groups.pop()
            else:
                self.trace.append((group.row, group.depth(), mask_of(going)))
                self.turn(group, going)

    def turn(self, group, going):
        row = self.rows[group.row]
        kind = row[0]
        if kind == "split":
            self.do_split(group, row, going)
        elif kind == "jump":
            group.row = row[2]
        elif kind == "call":
            do_call(group, row, going)
        elif kind == "back":
            self.do_back(group, row, going)
        elif kind in ("meet", "join"):
            self.do_meeting(group, row, going)
        else:
            for runner in going:
                do_row(runner, row, self.most, self.shared)
            group.row += 1

    def do_split(self, group, row, going):
        straight = [runner for runner in going if runner.slot(row[2]) != 0]
        others = [runner for runner in going if runner.slot(row[2]) == 0]
        if straight and others:
            self.part(group, row, straight, others)
        else:
            group.row = group.row + 1 if straight else row[3]

    def part(self, group, row, straight, others):
        meeting_row = self.meeting_rows[group.row]
        goal = (meeting_row, group.depth())
        parted = [
            Group(row[3], group.calls, others, goal),
            Group(group.row + 1, group.calls, straight, goal),
        ]
        if self.pick() % 2 == 1:
            parted.reverse()
        group.row = meeting_row
        self.groups.extend(parted)

    def pick(self):
        if not self.picks:
            return 0
        picked = self.picks[self.partings % len(self.picks)]
        self.partings += 1
        return picked

    def do_back(self, group, row, going):
        if not group.calls:
            for runner in going:
                runner.finish("done", row[1])
            return
        call = group.calls[-1]
        for runner in going:
            runner.go_back(self.rows[call][2])
        group.calls = group.calls[:-1]
        group.row = call + 1

    def do_meeting(self, group, row, going):
        brought = [None] * len(self.runners)
        for runner in going:
            brought[runner.lane] = runner.slot(row[4]) if row[0] == "join" else 0
        self.letters.append((row[1], brought, self.shared.met()))
        if row[0] == "join":
            for runner in going:
                runner.give(row[2], joined(row[3], brought, runner.lane))
        group.row += 1


def do_call(group, row, going):
    if group.depth() == DEEPEST:
        for runner in going:
            runner.finish("deep", row[1])
        return
    for runner in going:
        runner.go_deeper(row[3], row[4])
    group.calls = group.calls + (group.row,)
    group.row = row[5]


def mask_of(runners):
    return sum([1 << runner.lane for runner in runners])


def run(program, mines, boxes, most, picks=None):
    if not is_let(program):
        raise Waits("a meeting stands on an own way")
    pile = Pile(program, mines, boxes, most, picks)
    pile.go()
    runners = pile.runners
    ends = [runner.end for runner in runners]
    told = [runner.told for runner in runners]
    steps = [runner.steps for runner in runners]
    return Outcome(pile.letters, pile.shared.clash, ends, told, steps, pile.shared.boxes, pile.trace)
