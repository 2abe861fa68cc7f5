"""The spots behind a prefix, and the errors for prefixes that have no completion."""

from soonknown.errors import BadPrefix, NoRoom
from soonknown.grammar import Grammar
from soonknown.spots import END, Spots

# The spot at which a document is complete.
COMPLETE = ("ended", END)


def start(schema):
    """Return the Spots of a schema, and the spots in front of a document."""
    grammar = Grammar()
    part = grammar.part_of(schema)
    return Spots(grammar), [("value", part, END)]


def begin(schema, prefix, limit):
    """Return the Spots of a schema, and the spots behind a prefix that has a completion within a limit."""
    if not isinstance(prefix, str):
        raise BadPrefix(0)
    ways, spots = start(schema)
    for at, sign in enumerate(prefix):
        spots = ways.spots_after(spots, sign)
        if spots == []:
            raise BadPrefix(at)
    if not has_room(ways, spots, len(prefix), limit):
        raise NoRoom(len(prefix) + missing(ways, spots))
    return ways, spots


def missing(ways, spots):
    """Return how many characters are missing at least at one of some spots."""
    return min([ways.shortest(spot) for spot in spots])


def has_room(ways, spots, read, limit):
    """Return whether a document may end within a limit from some spots, if so many characters have been read."""
    return limit is None or read + missing(ways, spots) <= limit
