"""What is known of a document after a prefix."""

from soonknown.grammar import Grammar
from soonknown.narrowing import pieces_behind
from soonknown.outlook import Outlook
from soonknown.prefixes import begin
from soonknown.values import renewed

# More than any document has characters.
UNLIMITED = 1000000000


def known(schema, prefix, *, limit=None):
    """Return the knowledge after a prefix within a limit."""
    pieces = pieces_behind(schema, prefix) if isinstance(prefix, str) else []
    grammar = Grammar()
    parts = [grammar.part_of(piece) for piece in pieces]
    found = Outlook(grammar).known_of_all(parts, UNLIMITED if limit is None else limit)
    if found is None:
        # No completion: this raises the error that says why.
        begin(schema, prefix, limit)
    return renewed(found)
