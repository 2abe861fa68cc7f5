"""What the beginning of a document tells of its value, whatever the schema is.

A beginning is one of these tuples. The second item is the text itself, from where the value begins.

- ("whole", text, value): the document of a value, to which nothing can be added.
- ("begun", text): nothing, or the beginning of an integer, a flag or a string. An integer may always go on.
- ("list", text, items, last): a list with these whole items; last is the beginning of the next item, or None if
  there is nothing of it, not even the comma in front of it.
- ("record", text, members, name, last): a record with these whole members; name is what there is of the text in front
  of the next value, from its first quote to its colon, or None if there is not even a comma; last is the beginning
  of the next value if there is the colon, otherwise None.
"""

from soonknown.errors import BadDocument
from soonknown.values import GREATEST_DEPTH, is_whole, read_value


def beginning_of(text):
    """Return the beginning that a text is, or None if no document begins with it."""
    # The reader asks for the character behind the last one; no document contains a space.
    padded = text + " "
    try:
        value, behind = read_value(padded, 0, GREATEST_DEPTH)
    except BadDocument as wrong:
        return unfinished(padded, 0) if wrong.position == len(text) else None
    if behind < len(text):
        return None
    return ("begun", text) if is_whole(value) else ("whole", text, value)


def unfinished(padded, at):
    """Return the beginning from an index to the space at the end, where a value has not come to its end."""
    if padded[at] == "[":
        return unfinished_list(padded, at)
    if padded[at] == "{":
        return unfinished_record(padded, at)
    return ("begun", padded[at:-1])


def unfinished_list(padded, at):
    """Return the same as unfinished for a list."""
    end = len(padded) - 1
    items = []
    last = None
    place = at + 1
    while place < end:
        item, behind, last = next_value(padded, place)
        if last is not None:
            break
        items.append(item)
        if behind == end:
            break
        place = behind + 1
        last = ("begun", "")
    return ("list", padded[at:end], items, last)


def unfinished_record(padded, at):
    """Return the same as unfinished for a record."""
    end = len(padded) - 1
    members = {}
    name = None
    last = None
    place = at + 1
    while place < end:
        colon = padded.find(":", place)
        if colon < 0:
            name = padded[place:end]
            break
        name = padded[place:colon + 1]
        value, behind, last = next_value(padded, colon + 1)
        if last is not None:
            break
        members[name[1:-2]] = value
        name = None
        if behind == end:
            break
        place = behind + 1
        name = ""
    return ("record", padded[at:end], members, name, last)


def next_value(padded, at):
    """Return a whole value at an index, the index behind it and None; or None twice and what has begun there."""
    end = len(padded) - 1
    try:
        # The depth has been looked at when the whole text was read.
        value, behind = read_value(padded, at, GREATEST_DEPTH)
    except BadDocument:
        return None, None, unfinished(padded, at)
    if behind == end and is_whole(value):
        return None, None, ("begun", padded[at:end])
    return value, behind, None
