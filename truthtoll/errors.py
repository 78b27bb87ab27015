"""The refusals of the program, one class for each."""


class TollError(ValueError):
    pass


class BadWorths(TollError):
    pass


class BadWeb(TollError):
    pass


class BadCosts(TollError):
    pass


class NoWay(TollError):
    pass


class Alone(TollError):
    def __init__(self, road):
        TollError.__init__(self, f"there is none without road {road}")
        self.road = road
