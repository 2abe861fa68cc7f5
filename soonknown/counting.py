"""How long the values of a schema are, and how many there are of each length."""

from soonknown.grammar import Grammar
from soonknown.lengths import Lengths
from soonknown.tallies import Tallies


def shortest_length(schema):
    """Return the least length of the values of a schema."""
    grammar = Grammar()
    return Lengths(grammar, False).length_of(grammar.part_of(schema))


def longest_length(schema):
    """Return the greatest length of the values of a schema."""
    grammar = Grammar()
    return Lengths(grammar, True).length_of(grammar.part_of(schema))


def counts(schema, limit):
    """Return the list of the numbers of values of each length from 0 to a limit."""
    grammar = Grammar()
    found = Tallies(grammar, limit).row(grammar.part_of(schema))
    return found + [0] * (limit + 1 - len(found))
