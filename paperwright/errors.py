"""The refusals: one class for each, all straight under HouseError."""


class HouseError(ValueError):
    pass


class NoNumber(HouseError):
    pass


class NoValue(HouseError):
    pass


class NoText(HouseError):
    pass


class NoRoot(HouseError):
    pass


class NoRow(HouseError):
    pass


class TooFar(HouseError):
    pass


class NoLine(HouseError):
    pass
