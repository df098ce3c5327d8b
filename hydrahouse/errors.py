"""The refusals: one class for each, all of them straight under HydraError."""


class HydraError(ValueError):
    pass


class NoNumber(HydraError):
    pass


class Nought(HydraError):
    pass


class TooHigh(HydraError):
    pass


class NoLimit(HydraError):
    pass


class NoHead(HydraError):
    pass


class NoStep(HydraError):
    pass


class NoFit(HydraError):
    pass


class TooGreat(HydraError):
    pass


class NoFall(HydraError):
    pass


class NoChore(HydraError):
    pass


class NoText(HydraError):
    pass


class NoName(HydraError):
    pass


class NoRow(HydraError):
    pass
