"""The refusals: each has its class, straight beneath SwapError."""


class SwapError(ValueError):
    pass


class NotAlike(SwapError):
    pass


class BadWares(SwapError):
    pass


class TooMany(SwapError):
    pass


class BadSwap(SwapError):
    def __init__(self, place):
        self.place = place


class BadBasket(SwapError):
    pass


class BadRoad(SwapError):
    pass


class Endless(SwapError):
    pass


class TooGreat(SwapError):
    pass


class BadRest(SwapError):
    pass


class BadScale(SwapError):
    pass


class OtherWares(SwapError):
    pass


class BadBaskets(SwapError):
    pass


class NotKept(SwapError):
    def __init__(self, place, scale):
        self.place = place
        self.scale = scale


class OtherBook(SwapError):
    pass


class NoLine(SwapError):
    pass


class BadNames(SwapError):
    pass


class NoBook(SwapError):
    pass


class NoName(SwapError):
    pass


class NoSwap(SwapError):
    pass
