"""What several tests need: slow but plain ways to the same answers, and random schemas and values."""

import itertools
import json
import re


def plain_document(value):
    """The document of a value, as the json module of Python writes it."""
    return json.dumps(value, separators=(",", ":"), sort_keys=True)


def depth_of(value):
    parts = list(value.values()) if isinstance(value, dict) else value if isinstance(value, list) else []
    return 1 + max([depth_of(part) for part in parts], default=0)


def is_plain_value(thing):
    """Whether a thing that json has read is a value, apart from its depth."""
    if isinstance(thing, bool):
        return True
    if isinstance(thing, int):
        return abs(thing) <= 10 ** 9
    if isinstance(thing, str):
        return re.fullmatch("[a-z]{0,12}", thing) is not None
    if isinstance(thing, list):
        return len(thing) <= 8 and all(is_plain_value(part) for part in thing)
    if isinstance(thing, dict):
        names = all(re.fullmatch("[a-z]{1,8}", name) for name in thing)
        return names and len(thing) <= 8 and all(is_plain_value(part) for part in thing.values())
    return False


def is_document(text):
    """Whether a text is the document of a value, as the json module of Python reads and writes it."""
    try:
        value = json.loads(text)
    except (ValueError, RecursionError):
        return False
    return is_plain_value(value) and depth_of(value) <= 6 and plain_document(value) == text


ENDINGS = ["", "0", "1", '"', ":0", '":0', '"zzzzzzzz":0'] + [
    word[at:] for word in ("true", "false") for at in range(5)] + [
    "z" * many + end for many in range(1, 9) for end in ('"', '":0')]


def closers(text):
    """The brackets that are still open in a text, closed."""
    stack = []
    for sign in re.sub('"[a-z]*("|$)', "", text):
        if sign in "[{":
            stack.append("]" if sign == "[" else "}")
        elif stack and sign == stack[-1]:
            stack.pop()
    return "".join(reversed(stack))


def is_beginning(text):
    """Whether some document begins with a text: one of these endings completes whatever can be completed."""
    return any(is_document(text + ending + closers(text + ending)) for ending in ENDINGS)


def refused_at(text):
    """The greatest n such that some document begins with the first n characters."""
    at = 0
    while at < len(text) and is_beginning(text[:at + 1]):
        at += 1
    return at


def values_of(schema, record=None):
    """All values of a schema, one by one."""
    form = schema[0]
    if form == "integer":
        return list(range(schema[1], schema[2] + 1))
    if form == "flag":
        return [False, True]
    if form == "choice":
        return list(schema[1])
    if form == "text":
        return texts_of(*schema[1:])
    if form == "just":
        return [schema[1]]
    if form == "list":
        return lists_of(*schema[1:])
    if form == "record":
        return records_of(schema[1])
    if form == "repeat":
        return [record[schema[1]]]
    if form == "sized":
        return lists_of((), schema[1], record[schema[2]], record[schema[2]])
    return [value for alternative in schema[1] for value in values_of(alternative)]


def texts_of(start, letters, least, greatest):
    return [start + "".join(rest) for size in range(least, greatest + 1)
            for rest in itertools.product(letters, repeat=size - len(start))]


def lists_of(leading, item, least, greatest):
    found = []
    for size in range(least, greatest + 1):
        parts = [values_of(part) for part in (list(leading) + [item] * size)[:size]]
        found += [list(items) for items in itertools.product(*parts)]
    return found


def records_of(members):
    found = [{}]
    for name, schema, required in members:
        longer = [{**record, name: value} for record in found for value in values_of(schema, record)]
        found = longer if required else found + longer
    return found


def random_value(random, depth=3):
    """A random value of at most this depth."""
    kind = random.choice("ifslr" if depth > 1 else "ifs")
    if kind == "i":
        return random.choice([0, 1, -1, 2, 10, 37, -205, 10 ** 9, -10 ** 9, random.randint(-999, 999)])
    if kind == "f":
        return random.random() < 0.5
    if kind == "s":
        return "".join(random.choices("abyz", k=random.choice([0, 1, 2, 3, 12])))
    many = random.choice([0, 1, 1, 2, 2, 3, 8])
    if kind == "l":
        return [random_value(random, depth - 1) for _ in range(many)]
    names = ["".join(random.choices("abz", k=random.choice([1, 2, 8]))) for _ in range(many)]
    return {name: random_value(random, depth - 1) for name in names}


def random_plain(random):
    """A random schema of depth 1 with few values."""
    low = random.randint(-2, 3)
    words = sorted(random.sample(["", "a", "ab", "abc", "b", "ba", "c"], random.randint(1, 4)))
    start = random.choice(["", "a", "ab", "b"])
    letters = random.choice(["a", "ab", "bc", "c"])
    least = random.randint(len(start), 3)
    return random.choice([
        ("integer", low, low + random.randint(0, 3)), ("flag",), ("choice", tuple(words)),
        ("text", start, letters, least, random.randint(least, 3)),
        ("just", random.choice([0, 1, 2, True, False, "", "a", "ab"])),
    ])


def random_schema(random, depth=3):
    """A random schema with few values, of at most this depth; an either only has alternatives that may be apart."""
    form = random.choice(["plain", "list", "record", "either", "just"]) if depth > 1 else "plain"
    if form == "plain":
        return random_plain(random)
    if form == "list":
        leading = tuple(random_schema(random, depth - 1) for _ in range(random.randint(0, 2)))
        least = random.randint(len(leading), 2)
        return ("list", leading, random_schema(random, depth - 1), least, random.randint(least, 2))
    if form == "record":
        return ("record", random_members(random, depth))
    if form == "either":
        return ("either", (random_plain(random), ("list", (), random_schema(random, depth - 1), 0, 1)))
    return ("just", random_small_value(random))


def random_small_value(random):
    return random.choice([0, True, "a", [], [1], [True], ["a", 2], {}, {"a": 1}, {"a": True}, {"a": 0, "c": "b"}])


def random_members(random, depth):
    members = []
    for name in random.choice(["", "a", "b", "ab", "ac", "abc", "bc"]):
        schema = random_schema(random, depth - 1)
        if random.random() < 0.3 and members:
            schema = random.choice([("repeat", members[0][0]), ("sized", random_plain(random), members[0][0])])
        members.append((name, schema, random.random() < 0.7))
    return tuple(members)
