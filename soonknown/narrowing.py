"""What is left of a schema behind a prefix: schemas of the values that continue it."""

from soonknown.beginnings import beginning_of
from soonknown.forms import are_letters_of, item_schema, schema_in_record
from soonknown.schemas import MOST_ALTERNATIVES, fits
from soonknown.values import GREATEST_INTEGER, document, quoted, renewed


def narrow(schema, prefix):
    """Return the pieces of a schema for a prefix: schemas, pairwise apart, of the values that continue the prefix."""
    return [renewed(piece) for piece in narrowed((schema,), prefix)]


def narrowed(schemas, prefix):
    """Return the pieces of schemas that are pairwise apart for a prefix; they may have parts of the schemas."""
    begun = beginning_of(prefix)
    return [] if begun is None else pieces_of_all(schemas, begun)


def pieces_of(schema, begun):
    """Return the pieces of a schema for a beginning; none of them is an either."""
    form = schema[0]
    if form == "either":
        return pieces_of_all(schema[1], begun)
    if begun[0] == "whole":
        return [("just", begun[2])] if fits(schema, begun[2]) else []
    if begun[1] == "":
        return [schema]
    if form == "just":
        return [schema] if document(schema[1]).startswith(begun[1]) else []
    if form == "list":
        return pieces_of_list(schema, begun[2], begun[3]) if begun[0] == "list" else []
    if form == "record":
        return pieces_of_record(schema[1], begun[2], begun[3], begun[4]) if begun[0] == "record" else []
    return pieces_of_plain(schema, begun[1]) if begun[0] == "begun" else []


def pieces_of_all(schemas, begun):
    """Return the pieces of some schemas for a beginning."""
    found = []
    for schema in schemas:
        found.extend(pieces_of(schema, begun))
    return found


def pieces_of_plain(schema, text):
    """Return the pieces of an integer schema, a flag, a choice or a text for a text that is not empty."""
    form = schema[0]
    if form == "integer":
        return pieces_of_integer(schema[1], schema[2], text)
    if form == "flag":
        return [("just", flag) for flag in (False, True) if document(flag).startswith(text)]
    if form == "choice":
        words = tuple([word for word in schema[1] if quoted(word).startswith(text)])
        return [("choice", words)] if words != () else []
    return pieces_of_text(schema, text[1:]) if text[0] == '"' else []


def pieces_of_integer(least, greatest, text):
    """Return the pieces of an integer schema for the beginning of an integer."""
    if text == "-":
        return ranges_within(least, greatest, [(-GREATEST_INTEGER, -1)])
    if text[0] not in "-0123456789":
        return []
    value = int(text)
    low = high = abs(value)
    ranges = []
    while low <= GREATEST_INTEGER:
        ranges.append((-high, -low) if value < 0 else (low, high))
        # Nothing follows a 0.
        if value == 0:
            break
        low = low * 10
        high = high * 10 + 9
    return ranges_within(least, greatest, ranges)


def ranges_within(least, greatest, ranges):
    """Return schemas of those integers of ranges that are from least to greatest."""
    found = []
    for low, high in ranges:
        begin = max(least, low)
        end = min(greatest, high)
        if begin == end:
            found.append(("just", begin))
        elif begin < end:
            found.append(("integer", begin, end))
    return found


def pieces_of_text(schema, word):
    """Return the pieces of a text for the letters that have been read of a string."""
    _, start, letters, least, greatest = schema
    if start.startswith(word):
        return [schema]
    if not word.startswith(start) or len(word) > greatest or not are_letters_of(word[len(start):], letters):
        return []
    return [("text", word, letters, max(least, len(word)), greatest)]


def pieces_of_list(schema, items, last):
    """Return the pieces of a list schema for whole items and perhaps the beginning of the next one."""
    _, leading, item, least, greatest = schema
    read = len(items) if last is None else len(items) + 1
    if read > greatest:
        return []
    for at, value in enumerate(items):
        if not fits(item_schema(schema, at), value):
            return []
    parts = tuple([("just", value) for value in items])
    rows = [parts]
    if last is not None:
        rows = [(*parts, piece) for piece in grouped(pieces_of(item_schema(schema, len(items)), last))]
    return [("list", (*row, *leading[read:]), item, max(least, read), greatest) for row in rows]


def grouped(pieces):
    """Return pieces with eithers instead of several ones, so that there are not more and more of them."""
    found = []
    for at in range(0, len(pieces), MOST_ALTERNATIVES):
        group = tuple(pieces[at:at + MOST_ALTERNATIVES])
        found.append(("either", group) if len(group) > 1 else group[0])
    return found


def pieces_of_record(members, record, begun, last):
    """Return the pieces of a record schema for whole members, and perhaps the beginning of the next one."""
    done, left = settled(members, record)
    if done is None:
        return []
    if begun is None:
        return [("record", (*done, *left))]
    found = []
    for at, (name, _, required) in enumerate(left):
        if (quoted(name) + ":").startswith(begun):
            found.extend([("record", (*done, *row)) for row in rows_of_next(left[at:], record, last)])
        if required:
            break
    return found


def settled(members, record):
    """Return the members that have been read, with what they are, and those to come; or None twice if they do not fit.

    Members that have been passed over are neither here nor there.
    """
    done = []
    left = []
    names = sorted(record)
    for name, schema, required in members:
        if name in record:
            if not fits(schema_in_record(schema, record), record[name]):
                return None, None
            done.append((name, ("just", record[name]), True))
        elif names == [] or name > names[-1]:
            left.append((name, schema, required))
        elif required:
            return None, None
    return (done, left) if len(done) == len(record) else (None, None)


def rows_of_next(left, record, last):
    """Return tuples of the members to come if the first of them is next, perhaps with what has begun of its value."""
    name, schema, _ = left[0]
    parts = [schema]
    if last is not None:
        parts = pieces_of(schema_in_record(schema, record), last)
        # What other members name is no either.
        if not is_named(left[1:], name):
            parts = grouped(parts)
    return [((name, part, True), *left[1:]) for part in parts]


def is_named(members, name):
    """Return whether a repeat or a sized among members names the member of a name."""
    for _, schema, _ in members:
        if schema[0] in ("repeat", "sized") and schema[-1] == name:
            return True
    return False
