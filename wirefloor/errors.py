"""The refusals: each a class of its own, straight under WireError."""


class WireError(ValueError):
    pass


class BadSize(WireError):
    pass


class BadPrice(WireError):
    pass


class OutOfFloor(WireError):
    pass


class NotAStep(WireError):
    pass


class BadThing(WireError):
    pass


class Twice(WireError):
    pass


class NoFit(WireError):
    pass


class Crowded(WireError):
    pass


class NothingLeft(WireError):
    pass


class BadRow(WireError):
    def __init__(self, row):
        WireError.__init__(self, f"row {row} of the page is not well written")
        self.row = row


class BadAnswer(WireError):
    def __init__(self, row):
        WireError.__init__(self, f"no answer has such a row {row}")
        self.row = row
