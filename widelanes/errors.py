"""The refusals: one class for each, all under LaneError."""


class LaneError(ValueError):
    pass


class TooMuch(LaneError):
    pass


class NoLine(LaneError):
    pass


class NoNest(LaneError):
    pass


class NoName(LaneError):
    pass


class Waits(LaneError):
    pass


class NoHead(LaneError):
    pass
