"""All lanes together: each goes alone to the next meeting, and there the letter is made."""

from widelanes.alone import Goer
from widelanes.errors import Waits
from widelanes.marks import is_let
from widelanes.outcome import Outcome
from widelanes.sums import wrapped


def together(program, mines, boxes, most):
    if not is_let(program):
        raise Waits("a meeting stands on an own way")
    goers = [Goer(program, lane, len(mines), mine, boxes, most) for lane, mine in enumerate(mines)]
    held = [wrapped(number) for number in boxes]
    letters = []
    clash = None
    going = goers
    while going and clash is None:
        for goer in going:
            goer.go()
        clash = least_clash(going)
        if clash is None:
            lay_puts(held, going)
            going = [goer for goer in going if goer.meeting is not None]
            hand_letter(letters, held, going, len(goers))
    stories = [goer.story for goer in goers]
    ends = [story.end for story in stories]
    return Outcome(
        letters, clash, ends, [story.told for story in stories], [story.steps for story in stories], held, [],
    )


def lay_puts(held, going):
    for goer in going:
        for place, number in goer.story.puts[-1].items():
            held[place] = number


def hand_letter(letters, held, going, lanes):
    if not going:
        return
    brought = [None] * lanes
    for goer in going:
        brought[goer.lane] = goer.story.brought[-1][1]
    # In a program that is let all lanes come to the same meeting, so any of them tells the line.
    letter = (going[0].meeting[1], brought, list(held))
    letters.append(letter)
    for goer in going:
        goer.take(letter)


def least_clash(going):
    # Of the lines at which a lane touches a box the least serves, for a clash is least where both its lines are.
    lanes = [goer.lane for goer in going]
    touched = [least_lines(goer.story.touches[-1], ("get", "put")) for goer in going]
    put = [least_lines(goer.story.touches[-1], ("put",)) for goer in going]
    found = []
    for other in range(len(going)):
        for one in range(other):
            found.extend(clashes(lanes[one], put[one], lanes[other], touched[other]))
            found.extend(clashes(lanes[one], touched[one], lanes[other], put[other]))
    return min(found, default=None)


def least_lines(touches, words):
    lines = {}
    for word, place, line in touches:
        if word in words:
            lines[place] = min(line, lines.get(place, line))
    return lines


def clashes(lane, lines, other, other_lines):
    return [(place, lane, line, other, other_lines[place]) for place, line in lines.items() if place in other_lines]
