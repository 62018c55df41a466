"""The refusals of the program, each by its own name."""


# Each refusal stands straight under this one, so that taking one of them by name takes no other. Each tells its own
# name, as a class is not asked for it here.
class CartelError(ValueError):
    def spoken(self):
        return "CartelError"


class BadName(CartelError):
    def spoken(self):
        return "BadName"


class Taken(CartelError):
    def spoken(self):
        return "Taken"


class Full(CartelError):
    def spoken(self):
        return "Full"


class NoSide(CartelError):
    def spoken(self):
        return "NoSide"


class NoMan(CartelError):
    def spoken(self):
        return "NoMan"


class BadRank(CartelError):
    def spoken(self):
        return "BadRank"


class Own(CartelError):
    def spoken(self):
        return "Own"


class BadTariff(CartelError):
    def spoken(self):
        return "BadTariff"


class BadLimit(CartelError):
    def spoken(self):
        return "BadLimit"


class BadDay(CartelError):
    def spoken(self):
        return "BadDay"


class NoCartel(CartelError):
    def spoken(self):
        return "NoCartel"


class NoMen(CartelError):
    def spoken(self):
        return "NoMen"


class Twice(CartelError):
    def spoken(self):
        return "Twice"


class Gone(CartelError):
    def spoken(self):
        return "Gone"


class Held(CartelError):
    def spoken(self):
        return "Held"


class NotHeld(CartelError):
    def spoken(self):
        return "NotHeld"


class OffRoll(CartelError):
    def spoken(self):
        return "OffRoll"


class Uneven(CartelError):
    def spoken(self):
        return "Uneven"


class NoPart(CartelError):
    def spoken(self):
        return "NoPart"


class NoDeed(CartelError):
    def spoken(self):
        return "NoDeed"


class NoStep(CartelError):
    def spoken(self):
        return "NoStep"


# No words are made of the number when these are made: Python writes out no number of many thousand figures.
class Breaks(CartelError):
    def __init__(self, number):
        self.number = number

    def spoken(self):
        return "Breaks " + str(self.number)


class BadRow(CartelError):
    def __init__(self, at):
        self.at = at

    def spoken(self):
        return "BadRow"
