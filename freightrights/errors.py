"""The errors that the package raises."""


class FreightError(ValueError):
    """What all errors of the package have in common."""


class AllKnown(FreightError):
    """Nothing is left to be asked."""

    def __init__(self):
        pass


class BadAnswer(FreightError):
    """An answer that is neither True nor False."""

    def __init__(self, answer):
        self.answer = answer


class BadLine(FreightError):
    """A line of a desk's text that is not written as it ought to be."""

    def __init__(self, number):
        self.number = number


class BadText(FreightError):
    """A text of which a piece is not written as it ought to be."""

    def __init__(self, piece):
        self.piece = piece


class CanNot(FreightError):
    """A TAKING that cannot be."""

    def __init__(self):
        pass


class Known(FreightError):
    """A NAME that is there already."""

    def __init__(self, name):
        self.name = name


class NoCustomer(FreightError):
    """A string that is no customer of the NET."""

    def __init__(self, name):
        self.name = name


class NoLine(FreightError):
    """A string that is no line of the NET."""

    def __init__(self, name):
        self.name = name


class NoNet(FreightError):
    """A string that is the NAME of no NET."""

    def __init__(self, name):
        self.name = name


class NoNumber(FreightError):
    """A number of an hour or of a place that is none."""

    def __init__(self, number):
        self.number = number


class NoYard(FreightError):
    """A string that is no yard of the NET."""

    def __init__(self, name):
        self.name = name


class NotNet(FreightError):
    """What would be no NET."""

    def __init__(self):
        pass


class NothingDone(FreightError):
    """Nothing is there that could be taken back."""

    def __init__(self):
        pass


class OtherCustomers(FreightError):
    """Customers that are not just those that are asked for."""

    def __init__(self):
        pass
