"""Schemas: what is one, which values have one, and which two are apart."""

from soonknown.apartness import alternatives_of, are_all_apart
from soonknown.forms import are_letters_of, form_of, integer_range, is_ascending, item_schema, kind_of
from soonknown.forms import list_lengths, required_schema, schema_in_record
from soonknown.values import GREATEST_DEPTH, GREATEST_INTEGER, LONGEST_STRING, MOST_PARTS
from soonknown.values import is_letters, is_name, is_value_within, is_whole, kind_of_value, same

MOST_WORDS = 12
MOST_LETTERS = 26
MOST_ALTERNATIVES = 5
MOST_REPEATED = 40


def is_schema(thing):
    """Return whether any value is a schema."""
    return is_schema_within(thing, GREATEST_DEPTH)


def is_schema_within(thing, depth):
    """Return whether a thing is a schema of at most this depth."""
    if depth == 0:
        return False
    form = form_of(thing)
    if form == "just":
        return is_value_within(thing[1], depth)
    if form == "list":
        return is_list_within(thing, depth)
    if form == "record":
        return is_record_within(thing[1], depth)
    if form == "either":
        return is_either_within(thing[1], depth)
    return is_plain_schema(thing)


def is_plain_schema(thing):
    """Return whether a thing is an integer schema, a flag, a choice or a text."""
    form = form_of(thing)
    if form == "integer":
        return are_bounds(thing[1], thing[2], -GREATEST_INTEGER, GREATEST_INTEGER)
    if form == "choice":
        return are_words(thing[1])
    if form == "text":
        return is_start(thing[1], thing[2]) and are_bounds(thing[3], thing[4], len(thing[1]), LONGEST_STRING)
    return form == "flag"


def are_bounds(least, greatest, lowest, highest):
    """Return whether two things are integers in ascending order, neither of them outside of a range."""
    return is_whole(least) and is_whole(greatest) and lowest <= least <= greatest <= highest


def are_words(things):
    """Return whether a thing is the words of a choice."""
    if not isinstance(things, tuple) or not 1 <= len(things) <= MOST_WORDS:
        return False
    for thing in things:
        if not is_letters(thing, LONGEST_STRING):
            return False
    return is_ascending(things)


def is_start(start, letters):
    """Return whether two things are the start and the letters of a text."""
    if not is_letters(start, LONGEST_STRING) or not is_letters(letters, MOST_LETTERS):
        return False
    return letters != "" and is_ascending(letters)


def is_list_within(thing, depth):
    """Return whether a tuple of the form of a list is a schema of at most this depth."""
    _, leading, item, least, greatest = thing
    if not isinstance(leading, tuple) or not are_bounds(least, greatest, len(leading), MOST_PARTS):
        return False
    for part in (*leading, item):
        if not is_schema_within(part, depth - 1):
            return False
    return True


def is_record_within(members, depth):
    """Return whether a thing is the members of a record schema of at most this depth."""
    if not isinstance(members, tuple) or len(members) > MOST_PARTS:
        return False
    for member in members:
        if not is_member(member):
            return False
    if not is_ascending([member[0] for member in members]):
        return False
    for at, member in enumerate(members):
        if not is_member_schema(member[1], members[:at], depth - 1):
            return False
    return True


def is_member(thing):
    """Return whether a thing is a tuple of a name, something and a bool."""
    return isinstance(thing, tuple) and len(thing) == 3 and is_name(thing[0]) and isinstance(thing[2], bool)


def is_member_schema(thing, earlier, depth):
    """Return whether a thing may be the schema, of at most this depth, of a member behind earlier ones."""
    form = form_of(thing)
    if form == "repeat":
        return may_be_repeated(required_schema(earlier, thing[1]))
    if form == "sized":
        return may_be_size(required_schema(earlier, thing[2])) and is_schema_within(thing[1], depth - 1)
    return is_schema_within(thing, depth)


def may_be_repeated(schema):
    """Return whether a repeat may name a member of this schema; None is that of no member."""
    form = form_of(schema)
    if form == "integer":
        return schema[2] - schema[1] < MOST_REPEATED
    if form == "just":
        return not isinstance(schema[1], (list, dict))
    return form == "choice" or form == "flag"


def may_be_size(schema):
    """Return whether a sized may name a member of this schema; None is that of no member."""
    form = form_of(schema)
    if form == "integer" or (form == "just" and is_whole(schema[1])):
        least, greatest = integer_range(schema)
        return 0 <= least and greatest <= MOST_PARTS
    return False


def is_either_within(alternatives, depth):
    """Return whether a thing is the alternatives of an either of at most this depth."""
    if not isinstance(alternatives, tuple) or not 2 <= len(alternatives) <= MOST_ALTERNATIVES:
        return False
    for alternative in alternatives:
        if form_of(alternative) == "either" or not is_schema_within(alternative, depth):
            return False
    for at, alternative in enumerate(alternatives):
        for earlier in alternatives[:at]:
            if not apart(earlier, alternative):
                return False
    return True


def fits(schema, value):
    """Return whether a value has a schema."""
    form = schema[0]
    if form == "either":
        return fits_any(schema[1], value)
    if kind_of(schema) != kind_of_value(value):
        return False
    if form == "just":
        return same(schema[1], value)
    if form == "integer":
        return schema[1] <= value <= schema[2]
    if form == "list":
        return fits_list(schema, value)
    if form == "record":
        return fits_record(schema[1], value)
    return form == "flag" or fits_string(schema, value)


def fits_any(alternatives, value):
    """Return whether a value has one of some schemas."""
    for alternative in alternatives:
        if fits(alternative, value):
            return True
    return False


def fits_string(schema, word):
    """Return whether a string has a choice, a text or a just with a string."""
    if schema[0] == "just":
        return word == schema[1]
    if schema[0] == "choice":
        return word in schema[1]
    _, start, letters, least, greatest = schema
    if not least <= len(word) <= greatest or not word.startswith(start):
        return False
    return are_letters_of(word[len(start):], letters)


def fits_list(schema, values):
    """Return whether a list has a list schema."""
    least, greatest = list_lengths(schema)
    if not least <= len(values) <= greatest:
        return False
    return do_parts_fit([(item_schema(schema, at), value) for at, value in enumerate(values)])


def fits_record(members, record):
    """Return whether a dict has the record schema of some members."""
    names = [member[0] for member in members]
    for name in record:
        if name not in names:
            return False
    parts = []
    for name, schema, required in members:
        if name in record:
            parts.append((schema_in_record(schema, record), record[name]))
        elif required:
            return False
    return do_parts_fit(parts)


def do_parts_fit(parts):
    """Return whether each value has the schema beside it."""
    # Plain values first: a wrong one spares the search through deep ones, at every level of eithers.
    # What gives a size still comes before the list of this size, so it is known to be a number there.
    plain = [part for part in parts if not isinstance(part[1], (list, dict))]
    deep = [part for part in parts if isinstance(part[1], (list, dict))]
    for schema, value in [*plain, *deep]:
        if not fits(schema, value):
            return False
    return True


def apart(first, second):
    """Return whether two schemas are apart."""
    return are_all_apart(alternatives_of((first,)), alternatives_of((second,)), True)
