"""The refusals of the program."""


class RowError(ValueError):
    """Any refusal."""


class TooMany(RowError):
    """More rows than a form is made of."""


class BadRow(RowError):
    """What is no row, or no list of rows."""


class BadPlace(RowError):
    """What is no place."""


class NoJoin(RowError):
    """A place where no join of the told name stands."""
