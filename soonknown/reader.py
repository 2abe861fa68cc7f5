"""A reader: it is fed a document, and tells what is known of it after each character."""

from soonknown.completions import is_complete, offered
from soonknown.errors import NotOffered, TooFar
from soonknown.knowledge import led_to, parts_of
from soonknown.known import known_of
from soonknown.narrowing import narrowed
from soonknown.prefixes import begin
from soonknown.values import read_document, renewed, written


def events_between(path, before, after):
    """Return the events of a path, and of those that continue it, between two knowledges; None leads nowhere."""
    # A value that is known stays as it is, so that it is never 1 before a character and True behind it.
    if before is not None and before == after:
        return []
    found = [(path, renewed(after))]
    earlier = {} if before is None else dict(parts_of(before))
    later = {} if after is None else dict(parts_of(after))
    for step in sorted(set([*earlier, *later])):
        found.extend(events_between((*path, step), earlier.get(step), later.get(step)))
    return found


def is_settled(knowledge, path):
    """Return whether any value, as a path, leads to the knowledge of one value."""
    found = led_to(knowledge, path)
    return found is not None and found[0] == "value"


class Reader:
    """What has been read of a document of a schema, within a limit."""

    def __init__(self, schema, *, limit=None):
        self._schema = renewed(schema)
        # Two schemas are the same exactly if these texts are.
        self._schema_text = written(self._schema)
        self._limit = limit
        begin(self._schema, "", limit)
        # Nothing of the pieces and the knowledge is handed out, so that they stay as they are.
        self._text = ""
        self._pieces = [self._schema]
        self._knowledge = known_of(self._pieces, limit)

    def __eq__(self, other):
        if not isinstance(other, Reader):
            return False
        if self._schema_text != other._schema_text:
            return False
        return self._limit == other._limit and self._text == other._text

    def __len__(self):
        return len(self._text)

    def feed(self, text):
        """Read the characters of a text and return the events of all of them."""
        events = []
        read = self._text
        pieces = self._pieces
        before = self._knowledge
        for sign in text:
            read = read + sign
            # What is left of the pieces is left of the schema, and they are mostly less than the schema.
            pieces = narrowed(pieces, read)
            after = known_of(pieces, self._limit)
            if after is None:
                raise NotOffered(len(read) - 1)
            events.extend(events_between((), before, after))
            before = after
        self._text = read
        self._pieces = pieces
        self._knowledge = before
        return events

    def back(self, number):
        """Take the last characters back."""
        if number > len(self._text):
            raise TooFar(number)
        self.set_text(self._text[:len(self._text) - number])

    def set_text(self, text):
        """Make a text that has completions the text that has been read."""
        self._text = text
        self._pieces = narrowed((self._schema,), text)
        self._knowledge = known_of(self._pieces, self._limit)

    def text(self):
        """Return the text that has been read."""
        return self._text

    def known(self):
        """Return the knowledge after the text."""
        return renewed(self._knowledge)

    def offered(self):
        """Return the list of the characters that may follow, in ascending order."""
        return offered(self._schema, self._text, limit=self._limit)

    def is_complete(self):
        """Return whether the text is a document of the schema."""
        return is_complete(self._schema, self._text)

    def value(self):
        """Return the value of the document that the text is, or None if it is not complete."""
        return read_document(self._text) if self.is_complete() else None

    def fork(self):
        """Return a new reader with the same schema, text and limit."""
        return self.with_limit(self._limit)

    def with_limit(self, limit):
        """Return a new reader with the same schema and text and another limit."""
        begin(self._schema, self._text, limit)
        reader = Reader(self._schema, limit=limit)
        reader.set_text(self._text)
        return reader

    def settled_at(self, path):
        """Return the least number of characters after which a path leads to a single value.

        None if it does not after the text. What is settled stays so as long as the path leads anywhere, and a path
        that leads nowhere after having led somewhere never leads anywhere again. So halving finds the number.
        """
        if not is_settled(self._knowledge, path):
            return None
        low = 0
        high = len(self._text)
        while low < high:
            middle = (low + high) // 2
            pieces = narrowed((self._schema,), self._text[:middle])
            if is_settled(known_of(pieces, self._limit), path):
                high = middle
            else:
                low = middle + 1
        return low
