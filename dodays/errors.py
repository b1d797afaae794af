"""The refusals of the program."""


class DoError(ValueError):
    """Any refusal."""


class NoDate(DoError):
    """What is asked for is no date of the years told, or no day."""


class NoThing(DoError):
    """A number is none of the list's."""


class NotOpen(DoError):
    """A thing can not be done on the day."""


class Ring(DoError):
    """A thing would lean on itself."""


class BadThing(DoError):
    """A worth would make no thing."""


class NoRoom(DoError):
    """There is no room for one more."""


class NoText(DoError):
    """A text is no list's."""
