"""The errors of the package: each one keeps what was wrong, and stands under RateError alone."""


class RateError(ValueError):
    """The base of all errors of this package."""


class InvalidNet(RateError):
    """For what is no net."""

    def __init__(self, given):
        self.given = given


class InvalidNumber(RateError):
    """For what is no whole number within its bounds."""

    def __init__(self, given):
        self.given = given


class InvalidFraction(RateError):
    """For what is no fraction in lowest terms."""

    def __init__(self, given):
        self.given = given


class InvalidPolynomial(RateError):
    """For what is no polynomial of the told kind."""

    def __init__(self, given):
        self.given = given


class InvalidOrder(RateError):
    """For what is no order of the unknowns."""

    def __init__(self, given):
        self.given = given


class InvalidTable(RateError):
    """For what is no table of the told kind."""

    def __init__(self, given):
        self.given = given


class InvalidSeries(RateError):
    """For what is no series of the told degree."""

    def __init__(self, given):
        self.given = given


class InvalidRow(RateError):
    """For what is no row of series."""

    def __init__(self, given):
        self.given = given


class InvalidField(RateError):
    """For what is no field."""

    def __init__(self, given):
        self.given = given


class InvalidLook(RateError):
    """For what is no look of the net."""

    def __init__(self, given):
        self.given = given


class InvalidKind(RateError):
    """For what is no kind of tanks."""

    def __init__(self, given):
        self.given = given


class InvalidChoice(RateError):
    """For what is no choice of tanks."""

    def __init__(self, given):
        self.given = given


class InvalidRenaming(RateError):
    """For what is no renaming."""

    def __init__(self, given):
        self.given = given


class TooMany(RateError):
    """For a number that is above its bound."""

    def __init__(self, given):
        self.given = given


class InvalidAssignment(RateError):
    """For the first share that is wrong, None for no tuple of the told form."""

    def __init__(self, index):
        self.index = index


class InvalidFillings(RateError):
    """For the first filling that is wrong, None for no tuple of the told form."""

    def __init__(self, index):
        self.index = index


class InvalidText(RateError):
    """For the first row that is refused, None for no text."""

    def __init__(self, index):
        self.index = index


class InvalidLines(RateError):
    """For the first line that is no text, None for no tuple of the told form."""

    def __init__(self, index):
        self.index = index


class InvalidWriting(RateError):
    """For the first sign that is refused, None for no text."""

    def __init__(self, place):
        self.place = place
