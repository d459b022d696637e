"""The refusals of the program."""


class HullError(ValueError):
    pass


class NoPoint(HullError):
    pass


class NoSpot(HullError):
    pass


class NoFour(HullError):
    pass


class NoMiddle(HullError):
    pass


class NoNote(HullError):
    pass
