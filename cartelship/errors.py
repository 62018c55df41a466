"""The refusals of the program, each by its own name."""


# Each refusal stands straight under this one, so that taking one of them by name takes no other.
class CartelError(ValueError):
    pass


class BadName(CartelError):
    pass


class Taken(CartelError):
    pass


class Full(CartelError):
    pass


class NoSide(CartelError):
    pass


class NoMan(CartelError):
    pass


class BadRank(CartelError):
    pass


class Own(CartelError):
    pass


class BadTariff(CartelError):
    pass


class BadLimit(CartelError):
    pass


class BadDay(CartelError):
    pass


class NoCartel(CartelError):
    pass


class NoMen(CartelError):
    pass


class Twice(CartelError):
    pass


class Gone(CartelError):
    pass


class Held(CartelError):
    pass


class NotHeld(CartelError):
    pass


class OffRoll(CartelError):
    pass


class Uneven(CartelError):
    pass


class NoPart(CartelError):
    pass


class NoDeed(CartelError):
    pass


class NoStep(CartelError):
    pass


# No words are made of the number here or below: Python writes out no number of many thousand figures.
class Breaks(CartelError):
    def __init__(self, number):
        self.number = number


class BadRow(CartelError):
    def __init__(self, at):
        self.at = at
