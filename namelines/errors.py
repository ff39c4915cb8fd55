"""The refusals. Each stands straight under LineError, so that none is caught in another one's place."""


class LineError(ValueError):
    """What all refusals have in common."""


class NoPlace(LineError):
    """There is no such place."""


class NoName(LineError):
    """The name lies nowhere."""


class Down(LineError):
    """The house is fallen."""


class NoLine(LineError):
    """There is no such strand."""


class NoHouse(LineError):
    """There is no such house."""


class NotSo(LineError):
    """What is to become so is so already."""


class BadRow(LineError):
    """A row of a weaving's text isn't so written, or can't stand there."""

    def __init__(self, row):
        super().__init__(f"row {row} of the text")
        self.row = row


class BadSheet(LineError):
    """A row of a sheet isn't so written, or can't stand there."""

    def __init__(self, row):
        super().__init__(f"row {row} of the sheet")
        self.row = row
