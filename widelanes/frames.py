"""Where a lane stands in a def, and the names that it has there."""

from widelanes.walks import Walk

DEEPEST = 6


class Frame:
    def __init__(self, body, names, given):
        self.names = names
        # The name of the calling def that is given what this one returns, None for main.
        self.given = given
        # A walk along each list of statements that the lane is in, the innermost last.
        self.walks = [Walk(body)]
        # For each while that the lane is in, how many walks lie round its body.
        self.loops = []

    def statement(self):
        # The one to do now, None at the def's end. A walk stays at its while till that is left,
        # so behind the body's end the while is tested again.
        while self.walks and self.walks[-1].is_over():
            self.walks.pop()
            if self.loops and self.loops[-1] == len(self.walks):
                self.loops.pop()
        return self.walks[-1].before() if self.walks else None

    def pass_by(self):
        self.walks[-1].taken()

    def enter(self, body):
        self.walks.append(Walk(body))

    def enter_loop(self, body):
        self.loops.append(len(self.walks))
        self.enter(body)

    def leave_body(self):
        # Of the innermost while; the lane stands at the while itself then.
        self.walks = self.walks[:self.loops.pop()]
