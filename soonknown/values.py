"""Values, their documents, and how a document is read."""

from soonknown.errors import BadDocument

GREATEST_INTEGER = 1000000000
LONGEST_STRING = 12
LONGEST_NAME = 8
MOST_PARTS = 8
GREATEST_DEPTH = 6

LETTERS = "abcdefghijklmnopqrstuvwxyz"
DIGITS = "0123456789"
LAST_NAME = "zzzzzzzz"


def is_whole(thing):
    """Return whether a thing is an integer; True and False are none."""
    return isinstance(thing, int) and not isinstance(thing, bool)


def is_letters(thing, most):
    """Return whether a thing is a string of at most so many letters."""
    if not isinstance(thing, str) or len(thing) > most:
        return False
    for sign in thing:
        if sign not in LETTERS:
            return False
    return True


def is_name(thing):
    """Return whether a thing is a name."""
    return is_letters(thing, LONGEST_NAME) and thing != ""


def is_value(thing):
    """Return whether any value is a value of documents."""
    return is_value_within(thing, GREATEST_DEPTH)


def is_value_within(thing, depth):
    """Return whether a thing is a value of at most this depth."""
    if depth == 0:
        return False
    if isinstance(thing, list):
        return len(thing) <= MOST_PARTS and are_values_within(thing, depth - 1)
    if isinstance(thing, dict):
        return are_names(thing) and are_values_within(list(thing.values()), depth - 1)
    if is_whole(thing):
        return -GREATEST_INTEGER <= thing <= GREATEST_INTEGER
    return isinstance(thing, bool) or is_letters(thing, LONGEST_STRING)


def are_values_within(things, depth):
    """Return whether all things are values of at most this depth."""
    for thing in things:
        if not is_value_within(thing, depth):
            return False
    return True


def are_names(things):
    """Return whether the keys of a dict can be the names of a record."""
    if len(things) > MOST_PARTS:
        return False
    for thing in things:
        if not is_name(thing):
            return False
    return True


def kind_of_value(value):
    """Return the kind of a value."""
    if isinstance(value, bool):
        return "flag"
    if isinstance(value, int):
        return "integer"
    if isinstance(value, str):
        return "string"
    return "list" if isinstance(value, list) else "record"


def document(value):
    """Return the document of a value."""
    if isinstance(value, bool):
        return "true" if value else "false"
    if isinstance(value, int):
        return str(value)
    if isinstance(value, str):
        return quoted(value)
    if isinstance(value, list):
        return "[" + ",".join([document(item) for item in value]) + "]"
    members = [quoted(name) + ":" + document(value[name]) for name in sorted(value)]
    return "{" + ",".join(members) + "}"


def quoted(letters):
    """Return letters between quotes."""
    return '"' + letters + '"'


def same(first, second):
    """Return whether two values are the same; by their documents, as to Python 1 equals True."""
    return document(first) == document(second)


def renewed(thing):
    """Return a copy of a value, a schema or a knowledge that has no list or dict in common with it."""
    if isinstance(thing, tuple):
        return tuple([renewed(part) for part in thing])
    if isinstance(thing, list):
        return [renewed(part) for part in thing]
    if isinstance(thing, dict):
        return {name: renewed(part) for name, part in thing.items()}
    return thing


def written(thing):
    """Return a text that is the same for two schemas or two knowledges exactly if they are the same."""
    if isinstance(thing, tuple):
        return "(" + ",".join([written(part) for part in thing]) + ")"
    return document(thing)


def read_document(text):
    """Return the value of a document; each reader below refuses the first character that cannot stand there."""
    if not isinstance(text, str):
        raise BadDocument(0)
    # No document contains a space: so it is refused where the text ends, and no reader asks for the end.
    value, end = read_value(text + " ", 0, GREATEST_DEPTH)
    if end < len(text):
        raise BadDocument(end)
    return value


def read_value(text, at, depth):
    """Return the value of at most this depth that begins at an index, and the index behind it."""
    if text[at] == "[":
        return read_list(text, at + 1, depth - 1)
    if text[at] == "{":
        return read_record(text, at + 1, depth - 1)
    if text[at] == '"':
        return read_string(text, at + 1)
    if text[at] == "t":
        return True, read_word(text, at, "true")
    if text[at] == "f":
        return False, read_word(text, at, "false")
    return read_integer(text, at)


def read_word(text, at, word):
    """Return the index behind a word that must stand at an index."""
    for step, sign in enumerate(word):
        if text[at + step] != sign:
            raise BadDocument(at + step)
    return at + len(word)


def read_integer(text, at):
    """Return the integer at an index, and the index behind it."""
    if text[at] == "0":
        return 0, at + 1
    first = at + 1 if text[at] == "-" else at
    if text[first] not in DIGITS or text[first] == "0":
        raise BadDocument(first)
    end = first + 1
    while text[end] in DIGITS and int(text[first:end + 1]) <= GREATEST_INTEGER:
        end += 1
    return int(text[at:end]), end


def read_string(text, at):
    """Return the string whose letters begin at an index, and the index behind its second quote."""
    end = at
    while end < at + LONGEST_STRING and text[end] in LETTERS:
        end += 1
    return text[at:end], read_word(text, end, '"')


def read_list(text, at, depth):
    """Return the list whose items begin at an index, and the index behind it; depth is that of its items."""
    items = []
    if text[at] == "]":
        return items, at + 1
    if depth == 0:
        raise BadDocument(at)
    while True:
        item, at = read_value(text, at, depth)
        items.append(item)
        if text[at] == "]":
            return items, at + 1
        if len(items) == MOST_PARTS:
            raise BadDocument(at)
        at = read_word(text, at, ",")


def read_record(text, at, depth):
    """Return the record whose members begin at an index, and the index behind it; depth is that of its members."""
    members = {}
    if text[at] == "}":
        return members, at + 1
    if depth == 0:
        raise BadDocument(at)
    name = ""
    while True:
        name, at = read_name(text, at, name)
        members[name], at = read_value(text, at, depth)
        if text[at] == "}":
            return members, at + 1
        if len(members) == MOST_PARTS or name == LAST_NAME:
            raise BadDocument(at)
        at = read_word(text, at, ",")


def read_name(text, at, before):
    """Return the name at an index, which must come behind the name before it, and the index of its value."""
    begin = read_word(text, at, '"')
    end = begin
    while text[end] in LETTERS and begins_name_behind(text[begin:end + 1], before):
        end += 1
    name = text[begin:end]
    if name <= before:
        raise BadDocument(end)
    return name, read_word(text, end, '":')


def begins_name_behind(letters, before):
    """Return whether some name that comes behind another one begins with these letters."""
    return len(letters) <= LONGEST_NAME and letters.ljust(LONGEST_NAME, "z") > before
