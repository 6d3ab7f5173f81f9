"""The refusals, each a class of its own straight under ReadError."""


class ReadError(ValueError):
    pass


class NoName(ReadError):
    pass


class NoForm(ReadError):
    pass


class NoBook(ReadError):
    pass


class Loops(ReadError):
    pass


class NoRule(ReadError):
    pass


class NoText(ReadError):
    pass


class NoPlace(ReadError):
    pass


class NoDeed(ReadError):
    pass


class TooMany(ReadError):
    pass


class NoRows(ReadError):
    pass


class NoRow(ReadError):
    pass
