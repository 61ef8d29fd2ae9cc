"""The refusals, one class for each."""


class CordError(ValueError):
    pass


class Crowded(CordError):
    pass


class NoSheet(CordError):
    pass


class NoPlace(CordError):
    pass


class NoMove(CordError):
    pass


class NoNote(CordError):
    pass
