"""Boxes that all lanes share, and the first clash of their touches."""


class Shared:
    def __init__(self, boxes):
        self.boxes = list(boxes)
        self.clash = None
        # For each place the touches (word, lane, line) of the phase, the earliest first. Of each lane the first
        # reading and the first putting serve: a later one never is the earliest that clashes.
        self.touches = {}

    def has_box(self, place):
        return 0 <= place < len(self.boxes)

    def taken(self, lane, place, line):
        self.touch("get", lane, place, line)
        return self.boxes[place]

    def laid(self, lane, place, line, number):
        self.touch("put", lane, place, line)
        self.boxes[place] = number

    def met(self):
        self.touches = {}
        return list(self.boxes)

    def touch(self, word, lane, place, line):
        touches = self.touches.setdefault(place, [])
        if self.clash is None:
            self.clash = first_clash(touches, word, lane, place, line)
        if not any([earlier[0] == word and earlier[1] == lane for earlier in touches]):
            touches.append((word, lane, line))


def first_clash(touches, word, lane, place, line):
    for other_word, other, other_line in touches:
        if other != lane and "put" in (word, other_word):
            if lane < other:
                return (place, lane, line, other, other_line)
            return (place, other, other_line, lane, line)
    return None
