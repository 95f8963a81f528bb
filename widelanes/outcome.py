"""What a run comes to: its letters, and either a clash or how each lane ended."""


class Outcome:
    def __init__(self, letters, clash, ends, told, steps, boxes, trace):
        self.letters = copied_letters(letters)
        self.clash = clash
        self.ends = kept(clash, ends)
        self.told = [list(numbers) for numbers in kept(clash, told)]
        self.steps = kept(clash, steps)
        self.boxes = kept(clash, boxes)
        self.trace = kept(clash, trace)


def copied_letters(letters):
    # A letter is a tuple, but its two lists could be changed through it, so they are copied too.
    return [(line, list(brought), list(boxes)) for line, brought, boxes in letters]


def kept(clash, values):
    # What lanes came to before a clash may hang on the picks, so nothing of it is told.
    return list(values) if clash is None else []
