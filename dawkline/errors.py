"""The errors of the program."""


class MailError(ValueError):
    """The base class of all errors of the program."""


class InvalidAddress(MailError):
    """A string is not an address, or not a path."""


class NoSuchEntry(MailError):
    """A box has no entry with this number."""


class Refused(MailError):
    """A host refuses a message that is submitted to it."""


class PowerCut(MailError):
    """The power of a disk has ended."""


class Incomplete(MailError):
    """A byte list ends inside a record; the place is its length."""

    def __init__(self, place):
        super().__init__(f"the bytes end inside a record, at {place}")
        self.place = place


class InvalidRecord(MailError):
    """A byte cannot stand in a record; the place is its index."""

    def __init__(self, place):
        super().__init__(f"the byte at {place} cannot stand in a record")
        self.place = place
