"""The errors of scripts, languages, gaps and repairs, one class for each kind of failure."""

from soonknown.errors import SchemaError


class BadScript(SchemaError):
    """What was given is not the steps of a script."""

    def __init__(self, steps):
        self.steps = steps


class WrongText(SchemaError):
    """A script is not for this text."""

    def __init__(self, wrong):
        self.wrong = wrong


class NotInside(SchemaError):
    """What was given is not a text of the language."""

    def __init__(self, wrong):
        self.wrong = wrong


class NoSuchText(SchemaError):
    """There are not so many texts."""

    def __init__(self, count):
        self.count = count


class NothingBetween(SchemaError):
    """No text of the language begins and ends as it should."""

    def __init__(self, pair):
        self.pair = pair


class NoTexts(SchemaError):
    """The language has no texts, so nothing leads into it."""

    def __init__(self, wrong):
        self.wrong = wrong
