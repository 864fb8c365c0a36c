"""The errors of the package; each keeps the values that it is made with."""


class NoHousehold(LookupError):
    """No household has this name."""

    def __init__(self, name):
        self.name = name


class NoHome(LookupError):
    """There is no such home."""

    def __init__(self, home):
        self.home = home


class Taken(ValueError):
    """There is a home of this name already."""

    def __init__(self, name):
        self.name = name


class Clash(ValueError):
    """This name keeps Plans, or PARTs, from being put together."""

    def __init__(self, name):
        self.name = name


class BadBound(ValueError):
    """This bound is none."""

    def __init__(self, bound):
        self.bound = bound


class BadStay(ValueError):
    """The stay of this name ends ahead of its beginning."""

    def __init__(self, name):
        self.name = name


class BadOrder(ValueError):
    """A household is missing in an order."""


class BadText(ValueError):
    """No Plan has this text."""


class BadLine(ValueError):
    """The line of this number is wrong."""

    def __init__(self, number):
        self.number = number


class Stopped(ValueError):
    """The deed of this number failed: the name of its error's class, and the value that this error keeps."""

    def __init__(self, number, word, value):
        self.number = number
        self.word = word
        self.value = value
