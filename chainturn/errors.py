"""The refusals of the program, one class for each."""


class ChainError(ValueError):
    pass


class NoText(ChainError):
    pass


class NoAnswer(ChainError):
    pass


class NoKind(ChainError):
    pass


class NoTurning(ChainError):
    pass


class NoRoad(ChainError):
    pass


class NoName(ChainError):
    pass


class TooMany(ChainError):
    pass
