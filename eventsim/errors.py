"""The errors that the program raises."""


class EventsimError(ValueError):
    """The base of all errors of the program."""


class ModelError(EventsimError):
    """A value that should be a model is none."""


class NumberError(EventsimError):
    """A value is not an integer in its range, or names a part that does not exist."""


class SituationError(EventsimError):
    """A model never has the given situation."""


class HoldError(EventsimError):
    """A process that should give a unit holds none."""


class CommandError(EventsimError):
    """A value is no command."""


class UndoError(EventsimError):
    """There is nothing to undo."""


class ParseError(EventsimError):
    """A text is not written as it should be; the line is the number of the first wrong one."""

    def __init__(self, line):
        super().__init__(f"the text is wrong in line {line}")
        self.line = line


class LimitError(EventsimError):
    """Something would be larger than its limit."""

    def __init__(self, limit):
        super().__init__(f"there would be more than {limit}")
        self.limit = limit
