"""The refusals of Lampwatch, one class for each."""


class LampError(ValueError):
    pass


class NoLight(LampError):
    pass


class NoBook(LampError):
    pass


class NoSight(LampError):
    pass


class NoFit(LampError):
    pass


class TooLong(LampError):
    pass


class NoNote(LampError):
    pass
