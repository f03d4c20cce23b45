"""The refusals, one class for each, all under StretchError."""


class StretchError(ValueError):
    pass


class NoNumber(StretchError):
    pass


class NoRule(StretchError):
    pass


class NotSure(StretchError):
    def __init__(self, at):
        self.at = at


class TooMuch(StretchError):
    pass


class NoPlan(StretchError):
    pass


class NoText(StretchError):
    pass


class NoName(StretchError):
    pass


class NoRow(StretchError):
    pass
