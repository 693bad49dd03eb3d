"""The refusals, one class each."""


class BoxError(ValueError):
    pass


class NoHeap(BoxError):
    pass


class NoWays(BoxError):
    pass


class NoBox(BoxError):
    pass


class NoSpot(BoxError):
    pass


class NoNumber(BoxError):
    pass


class NoHouses(BoxError):
    pass


class NoSkyline(BoxError):
    pass


class NoName(BoxError):
    pass


class NoDeed(BoxError):
    pass


class TooMany(BoxError):
    pass


class NoText(BoxError):
    pass


class NoAsk(BoxError):
    pass
