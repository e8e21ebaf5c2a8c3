"""The refusals. An error with a number shows that number as its words."""


class HeedError(ValueError):
    pass


class NoTurn(HeedError):
    def __init__(self, number):
        self.number = number


class NoRow(HeedError):
    def __init__(self, number):
        self.number = number


class NoRule(HeedError):
    pass


class NoWay(HeedError):
    pass


class NoName(HeedError):
    pass


class Twice(HeedError):
    pass
