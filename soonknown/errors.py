"""The errors of the package, one class for each kind of failure."""


class SchemaError(ValueError):
    """The base of all errors of this package."""


class BadDocument(SchemaError):
    """What was given is not the document of a value."""

    def __init__(self, position):
        self.position = position


class BadPrefix(SchemaError):
    """No value continues the prefix."""

    def __init__(self, position):
        self.position = position


class NoRoom(SchemaError):
    """Whatever continues the prefix is longer than the limit."""

    def __init__(self, length):
        self.length = length


class NoSuchCompletion(SchemaError):
    """There are not so many completions."""

    def __init__(self, count):
        self.count = count


class NoPath(SchemaError):
    """The path leads nowhere."""

    def __init__(self, path):
        self.path = path


class NotOffered(SchemaError):
    """A character that was fed is not offered."""

    def __init__(self, position):
        self.position = position


class TooManyStates(SchemaError):
    """The automaton has more states than the bound."""

    def __init__(self, bound):
        self.bound = bound


class BadSchema(SchemaError):
    """What was given is not the text of a schema."""

    def __init__(self, position):
        self.position = position


class TooFar(SchemaError):
    """There is not so much that could be taken back."""

    def __init__(self, number):
        self.number = number


class BadCommand(SchemaError):
    """What was said to the console is not a command."""

    def __init__(self, command):
        self.command = command
