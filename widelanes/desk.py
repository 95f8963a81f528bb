"""The desk: a job in a text, and its answer in a text."""

from widelanes.could import could
from widelanes.errors import NoHead, NoLine
from widelanes.machine import run
from widelanes.marks import waits
from widelanes.texts import read
from widelanes.words import read_number

# Each head line's first word, and the fewest and the most numbers behind it.
HEADS = (("mine", 1, 8), ("boxes", 0, 32), ("most", 1, 1), ("picks", 0, 32))
MOST_STEPS = 1000


def answered(job):
    lines = job.split("\n")
    if len(lines) < len(HEADS):
        raise NoHead("a head line lacks")
    heads = [numbers_behind(line, head) for line, head in zip(lines, HEADS)]
    most = heads[2][0]
    if not 0 <= most <= MOST_STEPS:
        raise NoHead("steps below 0, or too many")
    program = read("\n".join(lines[len(HEADS):]))
    waiting = waits(program)
    if waiting:
        return "\n".join([waits_line(program, line, key) for line, key in waiting])
    outcome = run(program, heads[0], heads[1], most, heads[3])
    return "\n".join([shown_row("could", pair) for pair in could(program)] + outcome_lines(outcome))


def numbers_behind(line, head):
    words = line.split(" ")
    if words[0] != head[0] or not head[1] <= len(words) - 1 <= head[2]:
        raise NoHead("a head line of another word, or of too few or too many numbers")
    try:
        return [read_number(word) for word in words[1:]]
    except NoLine:
        raise NoHead("a head line with something else than numbers") from None


def waits_line(program, line, key):
    if key[0] == "row":
        return shown_row("waits", (line, key[1]))
    own = [each[3] for each in program if each[0] == key[1]]
    return shown_row("waits", (line, own[0]))


def outcome_lines(outcome):
    if outcome.clash is not None:
        return [shown_row("clash", outcome.clash)]
    lines = []
    for lane, end in enumerate(outcome.ends):
        lines.append(shown_row("lane", [lane, end[0], end[1], outcome.steps[lane]] + outcome.told[lane]))
    return lines + [shown_row("boxes", outcome.boxes)]


def shown_row(word, parts):
    return " ".join([word] + [str(part) for part in parts])
