"""The refusals: what is raised where the document says that something is refused."""


class NestError(ValueError):
    """Any refusal."""


class BadText(NestError):
    """A text that is none of its sort; at is the number of the row or layer that isn't so."""

    def __init__(self, at):
        self.at = at


class NoName(NestError):
    """A name that no row ahead has."""

    def __init__(self, name):
        self.name = name


class Twice(NestError):
    """A row's name that a row ahead has."""

    def __init__(self, name):
        self.name = name


class TooGreat(NestError):
    """A row in whose term some part reaches too far; name is the row's."""

    def __init__(self, name):
        self.name = name


class NoRow(NestError):
    """A row that the desk can't be asked with."""
