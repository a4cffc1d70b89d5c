"""The refusals: one error class for each, all straight under DeedsError."""


class DeedsError(ValueError):
    # A place is a tuple (row, node), or None where no row is at fault.
    def __init__(self, place):
        self.place = place


class NoProgram(DeedsError):
    pass


class Twice(DeedsError):
    pass


class NoSuch(DeedsError):
    pass


class Miscount(DeedsError):
    pass


class Ring(DeedsError):
    pass


class Open(DeedsError):
    pass


class Lacks(DeedsError):
    pass


class NoHouse(DeedsError):
    pass


class Unfit(DeedsError):
    pass


class TooGreat(DeedsError):
    pass


class TooLong(DeedsError):
    pass


class NoWords(DeedsError):
    pass
