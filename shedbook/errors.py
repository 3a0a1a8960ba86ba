"""The errors that the program raises."""


class ShedError(ValueError):
    """The base class of all errors of the program."""


class Malformed(ShedError):
    """A text or a list of bytes is not of the form that is read."""


class InvalidLine(ShedError):
    """A tuple is not a line."""


class InvalidSchema(ShedError):
    """A list of columns is not a schema."""


class InvalidRule(ShedError):
    """A tuple is not a rule."""


class UnknownKind(ShedError):
    """A kind has no schema."""


class Clash(ShedError):
    """A rule clashes with another one."""


class NotFound(ShedError):
    """What was named is not there."""


class Duplicate(ShedError):
    """What was to be added is there already."""


class Refused(ShedError):
    """What was asked for is not taken."""


class Past(ShedError):
    """A moment lies before the present one."""


class Forbidden(ShedError):
    """An asker may not ask a question."""
