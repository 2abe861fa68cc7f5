"""Certificates: pairs of completions that differ, and pieces that are all that a prefix leaves of a schema."""

from soonknown.apartness import alternatives_of, are_all_apart
from soonknown.contrasts import Contrasts, combined, differ
from soonknown.grammar import Grammar
from soonknown.narrowing import narrowed
from soonknown.overlaps import Overlaps
from soonknown.prefixes import begin
from soonknown.schemas import fits, is_schema
from soonknown.values import document, is_value, renewed


def witness(schema, prefix, path, *, limit=None):
    """Return a tuple of two completions that differ at a path, or None if there are none."""
    begin(schema, prefix, limit)
    if not isinstance(path, tuple):
        return None
    grammar = Grammar()
    contrasts = Contrasts(grammar)
    pieces = narrowed((schema,), prefix)
    triple = combined([contrasts.contrasts(grammar.part_of(piece), path) for piece in pieces], path)
    without, first, second = triple
    if first is None or is_beyond(first, limit):
        return None
    for other in (without, second):
        if other is not None and not is_beyond(other, limit):
            return (renewed(first), renewed(other))
    return None


def is_beyond(value, limit):
    """Return whether a value is longer than a limit."""
    return limit is not None and len(document(value)) > limit


def is_witness(schema, prefix, path, pair, *, limit=None):
    """Return whether any value, as a pair, is a witness for a path."""
    begin(schema, prefix, limit)
    if not isinstance(pair, tuple) or len(pair) != 2:
        return False
    for value in pair:
        if not is_value(value) or not fits(schema, value):
            return False
        if not document(value).startswith(prefix) or is_beyond(value, limit):
            return False
    return differ(pair[0], pair[1], path)


def check_cover(schema, prefix, pieces):
    """Return whether any value is a list of pieces as narrow may return it."""
    if not isinstance(pieces, list) or not are_schemas(pieces) or not are_pairwise_apart(pieces):
        return False
    grammar = Grammar()
    overlaps = Overlaps(grammar)
    wanted = [grammar.part_of(piece) for piece in narrowed((schema,), prefix)]
    given = [grammar.part_of(piece) for piece in pieces]
    # No value has two of the pieces. So it is enough that as many have them, and that each one of these is wanted.
    if sum([overlaps.size(part) for part in given]) != sum([overlaps.size(part) for part in wanted]):
        return False
    for part in given:
        if sum([overlaps.common(part, other) for other in wanted]) != overlaps.size(part):
            return False
    return True


def are_schemas(things):
    """Return whether all of some things are schemas."""
    for thing in things:
        if not is_schema(thing):
            return False
    return True


def are_pairwise_apart(schemas):
    """Return whether each two of some schemas are apart, by halves, as whole lists are compared faster than pairs."""
    if len(schemas) < 2:
        return True
    middle = len(schemas) // 2
    if not are_pairwise_apart(schemas[:middle]) or not are_pairwise_apart(schemas[middle:]):
        return False
    return are_all_apart(alternatives_of(schemas[:middle]), alternatives_of(schemas[middle:]), True)
