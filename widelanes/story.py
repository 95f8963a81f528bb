"""What a lane does that goes alone."""


class Story:
    def __init__(self):
        self.told = []
        self.steps = 0
        self.end = None
        self.brought = []
        self.touches = []
        self.puts = []
        self.lines = []

    def begin_phase(self):
        self.touches.append([])
        self.puts.append({})

    def add_step(self, line):
        self.steps += 1
        self.lines.append(line)

    def add_touch(self, word, place, line):
        self.touches[-1].append((word, place, line))

    def add_put(self, place, number):
        self.puts[-1][place] = number

    def finish(self, word, line):
        self.end = (word, line)
