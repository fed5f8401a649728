"""The refusals: one class for each."""


class ChainError(ValueError):
    pass


class NoSheet(ChainError):
    def __init__(self, place, word):
        self.place = place
        self.word = word


class NoText(ChainError):
    def __init__(self, at):
        self.at = at


class NoCode(ChainError):
    pass


class NoRow(ChainError):
    pass


class NoName(ChainError):
    pass
