"""The refusals: one class each, all of them straight under NetError."""


class NetError(ValueError):
    pass


class NoRow(NetError):
    def __init__(self, row):
        self.row = row


class NoPlace(NetError):
    def __init__(self, place):
        self.place = place


class OldPlace(NetError):
    def __init__(self, place):
        self.place = place


class SamePlace(NetError):
    def __init__(self, place):
        self.place = place


class NoLine(NetError):
    def __init__(self, one, other):
        self.one = one
        self.other = other


class OldLine(NetError):
    def __init__(self, one, other):
        self.one = one
        self.other = other


class NoStrength(NetError):
    def __init__(self, strength):
        self.strength = strength


class TooWeak(NetError):
    def __init__(self, side):
        self.side = side


class Odd(NetError):
    def __init__(self, place):
        self.place = place


class TooMany(NetError):
    pass


class NoDeed(NetError):
    pass
