"""The forms of schemas, and what their tuples say."""

from soonknown.values import kind_of_value

# How many items the tuple of each form has.
SIZES = {
    "integer": 3, "flag": 1, "choice": 2, "text": 5, "just": 2, "list": 5, "record": 2,
    "repeat": 2, "sized": 3, "either": 2,
}
KINDS = {
    "integer": "integer", "flag": "flag", "choice": "string", "text": "string",
    "list": "list", "record": "record",
}


def form_of(thing):
    """Return the form that any value has by its first item and its size, or an empty string."""
    # Any value may come here: it is neither hashed nor compared before it is known to be a string.
    if not isinstance(thing, tuple) or len(thing) == 0 or not isinstance(thing[0], str):
        return ""
    return thing[0] if SIZES.get(thing[0]) == len(thing) else ""


def kind_of(schema):
    """Return the kind of a schema that is no either."""
    return kind_of_value(schema[1]) if schema[0] == "just" else KINDS[schema[0]]


def integer_range(schema):
    """Return the least and the greatest value of an integer schema or a just with an integer."""
    return (schema[1], schema[1]) if schema[0] == "just" else (schema[1], schema[2])


def list_lengths(schema):
    """Return the least and the greatest length of a list schema or a just with a list."""
    return (len(schema[1]), len(schema[1])) if schema[0] == "just" else (schema[3], schema[4])


def item_schema(schema, at):
    """Return the schema at a position of a list schema or a just with a list."""
    if schema[0] == "just":
        return ("just", schema[1][at])
    return schema[1][at] if at < len(schema[1]) else schema[2]


def required_schema(members, name):
    """Return the schema of the required member of a name, or None if there is none."""
    for other, schema, required in members:
        if required and other == name:
            return schema
    return None


def schema_by_itself(members, schema):
    """Return the schema of a member with a repeat or sized as what it is whatever the other members are."""
    if schema[0] == "repeat":
        return required_schema(members, schema[1])
    if schema[0] == "sized":
        least, greatest = integer_range(required_schema(members, schema[2]))
        return ("list", (), schema[1], least, greatest)
    return schema


def schema_in_record(schema, record):
    """Return the schema of a member with a repeat or sized as what it is in a certain record."""
    if schema[0] == "repeat":
        return ("just", record[schema[1]])
    if schema[0] == "sized":
        return ("list", (), schema[1], record[schema[2]], record[schema[2]])
    return schema


def are_letters_of(word, letters):
    """Return whether all letters of a word are among some letters."""
    for sign in word:
        if sign not in letters:
            return False
    return True


def is_ascending(texts):
    """Return whether each text comes before the next one."""
    for at in range(1, len(texts)):
        if texts[at - 1] >= texts[at]:
            return False
    return True
