"""What is known of a document after a prefix."""

from soonknown.grammar import Grammar
from soonknown.narrowing import narrowed
from soonknown.outlook import Outlook
from soonknown.prefixes import begin
from soonknown.values import renewed

# More than any document has characters.
UNLIMITED = 1000000000


def known(schema, prefix, *, limit=None):
    """Return the knowledge after a prefix within a limit."""
    pieces = narrowed((schema,), prefix) if isinstance(prefix, str) else []
    found = known_of(pieces, limit)
    if found is None:
        # No completion: this raises the error that says why.
        begin(schema, prefix, limit)
    return renewed(found)


def known_of(pieces, limit):
    """Return the knowledge of the values of schemas that are pairwise apart within a limit; None if there are none.

    It may have lists and dicts more than once.
    """
    grammar = Grammar()
    parts = [grammar.part_of(piece) for piece in pieces]
    return Outlook(grammar).known_of_all(parts, UNLIMITED if limit is None else limit)
