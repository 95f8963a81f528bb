"""A walk along a list, from its first thing to its last."""


class Walk:
    def __init__(self, row):
        self.row = row
        self.at = 0

    def is_over(self):
        return self.at == len(self.row)

    def before(self):
        return self.row[self.at]

    def taken(self):
        thing = self.row[self.at]
        self.at += 1
        return thing
