"""The refusals of the program, each straight under PartError."""


class PartError(ValueError):
    """Something is refused."""


class TooMany(PartError):
    """There are more answers than may be told."""


class NoPost(PartError):
    """A place is no post, or may not become or stop being one."""


class NoPlace(PartError):
    """A place isn't the web's."""


class BadRow(PartError):
    """A text's row isn't written as it must be; row is its number, from 0."""

    def __init__(self, row):
        self.row = row
