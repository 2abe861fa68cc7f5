"""What several tests need: slow but plain ways to the same answers, and random schemas and values."""

import bisect
import itertools
import json
import re

from soonknown.schemas import is_schema


def plain_document(value):
    """The document of a value, as the json module of Python writes it."""
    return json.dumps(value, separators=(",", ":"), sort_keys=True)


def depth_of(value):
    parts = list(value.values()) if isinstance(value, dict) else value if isinstance(value, list) else []
    return 1 + max([depth_of(part) for part in parts], default=0)


def is_plain_value(thing):
    """Whether a thing that json has read is a value, apart from its depth."""
    if isinstance(thing, bool):
        return True
    if isinstance(thing, int):
        return abs(thing) <= 10 ** 9
    if isinstance(thing, str):
        return re.fullmatch("[a-z]{0,12}", thing) is not None
    if isinstance(thing, list):
        return len(thing) <= 8 and all(is_plain_value(part) for part in thing)
    if isinstance(thing, dict):
        names = all(re.fullmatch("[a-z]{1,8}", name) for name in thing)
        return names and len(thing) <= 8 and all(is_plain_value(part) for part in thing.values())
    return False


def is_document(text):
    """Whether a text is the document of a value, as the json module of Python reads and writes it."""
    try:
        value = json.loads(text)
    except (ValueError, RecursionError):
        return False
    return is_plain_value(value) and depth_of(value) <= 6 and plain_document(value) == text


ENDINGS = ["", "0", "1", '"', ":0", '":0', '"zzzzzzzz":0'] + [
    word[at:] for word in ("true", "false") for at in range(5)] + [
    "z" * many + end for many in range(1, 9) for end in ('"', '":0')]


def closers(text):
    """The brackets that are still open in a text, closed."""
    stack = []
    for sign in re.sub('"[a-z]*("|$)', "", text):
        if sign in "[{":
            stack.append("]" if sign == "[" else "}")
        elif stack and sign == stack[-1]:
            stack.pop()
    return "".join(reversed(stack))


def is_beginning(text):
    """Whether some document begins with a text: one of these endings completes whatever can be completed."""
    return any(is_document(text + ending + closers(text + ending)) for ending in ENDINGS)


def refused_at(text):
    """The greatest n such that some document begins with the first n characters."""
    at = 0
    while at < len(text) and is_beginning(text[:at + 1]):
        at += 1
    return at


def values_of(schema, record=None):
    """All values of a schema, one by one."""
    form = schema[0]
    if form == "integer":
        return list(range(schema[1], schema[2] + 1))
    if form == "flag":
        return [False, True]
    if form == "choice":
        return list(schema[1])
    if form == "text":
        return texts_of(*schema[1:])
    if form == "just":
        return [schema[1]]
    if form == "list":
        return lists_of(*schema[1:])
    if form == "record":
        return records_of(schema[1])
    if form == "repeat":
        return [record[schema[1]]]
    if form == "sized":
        return lists_of((), schema[1], record[schema[2]], record[schema[2]])
    return [value for alternative in schema[1] for value in values_of(alternative)]


def texts_of(start, letters, least, greatest):
    return [start + "".join(rest) for size in range(least, greatest + 1)
            for rest in itertools.product(letters, repeat=size - len(start))]


def lists_of(leading, item, least, greatest):
    found = []
    for size in range(least, greatest + 1):
        parts = [values_of(part) for part in (list(leading) + [item] * size)[:size]]
        found += [list(items) for items in itertools.product(*parts)]
    return found


def records_of(members):
    found = [{}]
    for name, schema, required in members:
        longer = [{**record, name: value} for record in found for value in values_of(schema, record)]
        found = longer if required else found + longer
    return found


def plain_apart(first, second):
    """Whether two schemas are apart, by the rules of [7] one after the other, pair by pair."""
    if first[0] == "either":
        return all(plain_apart(alternative, second) for alternative in first[1])
    if second[0] == "either":
        return plain_apart(second, first)
    kinds = {kind_of_schema(first), kind_of_schema(second)}
    if len(kinds) == 2:
        return True
    if kinds == {"list"}:
        return plain_lists_apart(as_list(first), as_list(second))
    if kinds == {"record"}:
        return plain_records_apart(as_members(first), as_members(second))
    if kinds == {"integer"}:
        bounds = [schema[1:] if schema[0] == "integer" else schema[1:] * 2 for schema in (first, second)]
        return max(bounds[0][0], bounds[1][0]) > min(bounds[0][1], bounds[1][1])
    documents = {plain_document(value) for value in values_of(first)}
    return not any(plain_document(value) in documents for value in values_of(second))


def kind_of_schema(schema):
    sort = type(schema[1]) if schema[0] == "just" else schema[0]
    return {bool: "flag", int: "integer", str: "string", list: "list", dict: "record", "choice": "string",
            "text": "string"}.get(sort, sort)


def as_list(schema):
    if schema[0] == "list":
        return schema
    return ("list", tuple(("just", item) for item in schema[1]), None, len(schema[1]), len(schema[1]))


def plain_lists_apart(first, second):
    if first[4] < second[3] or second[4] < first[3]:
        return True
    rows = [(list(schema[1]) + [schema[2]] * 9) for schema in (first, second)]
    return any(plain_apart(rows[0][at], rows[1][at]) for at in range(min(first[3], second[3])))


def as_members(schema):
    if schema[0] == "just":
        return {name: (("just", value), True) for name, value in schema[1].items()}
    found = {}
    for name, part, required in schema[1]:
        if part[0] == "repeat":
            part = found[part[1]][0]
        elif part[0] == "sized":
            number = found[part[2]][0]
            part = ("list", (), part[1], number[1], number[-1])
        found[name] = (part, required)
    return found


def plain_records_apart(first, second):
    for ours, others in ((first, second), (second, first)):
        if any(required and name not in others for name, (_, required) in ours.items()):
            return True
    return any(first[name][1] and second[name][1] and plain_apart(first[name][0], second[name][0])
               for name in first if name in second)


def random_value(random, depth=3):
    """A random value of at most this depth."""
    kind = random.choice("ifslr" if depth > 1 else "ifs")
    if kind == "i":
        return random.choice([0, 1, -1, 2, 10, 37, -205, 10 ** 9, -10 ** 9, random.randint(-999, 999)])
    if kind == "f":
        return random.random() < 0.5
    if kind == "s":
        return "".join(random.choices("abyz", k=random.choice([0, 1, 2, 3, 12])))
    many = random.choice([0, 1, 1, 2, 2, 3, 8])
    if kind == "l":
        return [random_value(random, depth - 1) for _ in range(many)]
    names = ["".join(random.choices("abz", k=random.choice([1, 2, 8]))) for _ in range(many)]
    return {name: random_value(random, depth - 1) for name in names}


def random_plain(random):
    """A random schema of depth 1 with few values."""
    low = random.randint(-2, 3)
    words = sorted(random.sample(["", "a", "ab", "abc", "b", "ba", "c"], random.randint(1, 4)))
    start = random.choice(["", "a", "ab", "b"])
    letters = random.choice(["a", "ab", "bc", "c"])
    least = random.randint(len(start), 3)
    return random.choice([
        ("integer", low, low + random.randint(0, 3)), ("flag",), ("choice", tuple(words)),
        ("text", start, letters, least, random.randint(least, 3)),
        ("just", random.choice([0, 1, 2, True, False, "", "a", "ab"])),
    ])


def random_schema(random, depth=3):
    """A random schema with few values, of at most this depth; an either only has alternatives that may be apart."""
    form = random.choice(["plain", "list", "record", "either", "just"]) if depth > 1 else "plain"
    if form == "plain":
        return random_plain(random)
    if form == "list":
        leading = tuple(random_schema(random, depth - 1) for _ in range(random.randint(0, 2)))
        least = random.randint(len(leading), 2)
        return ("list", leading, random_schema(random, depth - 1), least, random.randint(least, 2))
    if form == "record":
        return ("record", random_members(random, depth))
    if form == "either":
        return ("either", (random_plain(random), ("list", (), random_schema(random, depth - 1), 0, 1)))
    return ("just", random_small_value(random))


def random_either(random, depth, leaves):
    """A random either, at all levels, down to leaves; its alternatives need not be apart."""
    return ("either", tuple(random_alternative(random, depth, leaves) for _ in range(random.choice([2, 2, 3, 4]))))


def random_alternative(random, depth, leaves):
    if depth == 1 or random.random() < 0.1:
        return random.choice(leaves)
    make = random.choice([random_either, random_either, random_alternative])
    parts = tuple(make(random, depth - 1, leaves) for _ in range(2))
    least = random.choice([0, 1, 1, 2, 2])
    names = random.choice(["ab", "ab", "ac"])
    return random.choice([
        ("list", (), parts[0], least, random.randint(least, 3)), ("list", parts[1:], parts[0], 2, random.randint(2, 3)),
        ("record", tuple((name, part, random.random() < 0.8) for name, part in zip(names, parts))),
    ])


def random_source(random):
    """A random schema that may be repeated, and that may be a size if it has no negative values and no letters."""
    low = random.choice([0, 0, 1, 8, 9, -2, 98])
    return random.choice([
        ("integer", 0, random.randint(0, 3)), ("integer", low, low + random.randint(0, 4)), ("flag",),
        random.choice([("integer", 0, 12), ("integer", 1, 10), ("integer", -11, -1), ("integer", -2, 10)]),
        ("choice", ("a", "ab", "b")), ("just", random.choice([0, 2, 10, True, "a", ""])),
    ])


def random_linked(random):
    """A random record with members that repeat others or have them as a size; it need not be a schema."""
    members = []
    for name in random.choice(["ab", "abc", "abc", "abcd", "abcde", "bcd"]):
        earlier = [member[0] for member in members]
        schema = random_source(random)
        if earlier and random.random() < 0.6:
            schema = random.choice([("repeat", random.choice(earlier)), ("repeat", random.choice(earlier)),
                                    ("sized", random_plain(random), random.choice(earlier)),
                                    ("sized", random_schema(random, 2), random.choice(earlier))])
        members.append((name, schema, random.random() < 0.8))
    return ("record", tuple(members))


def random_fork(random):
    """A random either of two records with linked members, which mostly differ in the first one; it may be no schema."""
    found = []
    for first in (("integer", 0, 1), ("integer", 2, random.choice([2, 3, 12]))):
        members = list(random_linked(random)[1])
        members[0] = (members[0][0], first, random.random() < 0.9)
        found.append(("record", tuple(members)))
    return ("either", tuple(found))


def most_values(schema):
    """A number that a schema has at most as many values as."""
    form = schema[0]
    if form == "list":
        found = 0
        for size in range(schema[3], schema[4] + 1):
            product = 1
            for part in (list(schema[1]) + [schema[2]] * size)[:size]:
                product *= most_values(part)
            found += product
        return found
    if form == "record":
        product = 1
        sources = {name: part for name, part, _ in schema[1]}
        for _, part, required in schema[1]:
            many = 1
            if part[0] == "sized":
                many = sum(most_values(part[1]) ** size for size in values_of(sources[part[2]]))
            elif part[0] != "repeat":
                many = most_values(part)
            product *= many + (not required)
        return product
    if form == "either":
        return sum(most_values(part) for part in schema[1])
    return len(values_of(schema))


EITHER_LEAVES = [("just", 0), ("just", 1), ("just", True), ("flag",), ("choice", ("a", "ab")), ("text", "", "b", 0, 1),
                 ("integer", 0, 1), ("integer", 2, 11), ("just", [1]), ("just", []), ("just", {}), ("just", {"a": 0})]


def small_schemas(random, many, most=300):
    """So many random schemas of every form, with at most so many values."""
    found = []
    while len(found) < many:
        schema = random.choice([random_schema(random, 1), random_schema(random, 2), random_schema(random, 3),
                                random_linked(random), random_linked(random), random_range(random),
                                random_fork(random), random_either(random, random.choice([2, 3]), EITHER_LEAVES)])
        if is_schema(schema) and most_values(schema) <= most:
            found.append(schema)
        elif is_schema(schema) and schema[0] == "record" and most_values(schema) <= 3 * most:
            found.append(("list", (), schema, 1, 1))
    return found


def random_range(random):
    """A random integer schema with at most a few hundred values, near powers of ten and the greatest integers."""
    low = random.choice([0, 0, 1, 5, 8, 95, 99, 100, 990, 10 ** 9 - 120]) + random.randint(0, 30)
    high = low + random.randint(0, 90)
    if random.random() < 0.3:
        return ("integer", -random.randint(0, 120), random.randint(0, 120))
    return ("integer", low, high) if random.random() < 0.6 else ("integer", -high, -low)


def documents_of(schema):
    """The documents of all values of a schema, in ascending order."""
    return sorted(plain_document(value) for value in values_of(schema))


SIGNS = '019-,]}"abft[{: '


def some_prefixes(random, documents, many=3):
    """All beginnings of some documents, and some of them changed."""
    found = {""}
    for document in random.sample(documents, min(many, len(documents))):
        for cut in range(len(document) + 1):
            found.add(document[:cut])
        cut = random.randrange(len(document) + 1)
        found.add(document[:cut] + random.choice(SIGNS) + document[cut:])
        found.add(document[:cut] + document[cut + 1:])
        found.add(document + random.choice(SIGNS))
        found.add(random.choice(SIGNS))
        found.update(with_other_words(random, document))
    return sorted(found)


def with_other_words(random, document):
    """Beginnings of a document with another integer, flag, string or name in it."""
    words = list(re.finditer('-?[0-9]+|true|false|"[a-z]*"', document))
    found = set()
    for word in random.sample(words, min(2, len(words))):
        other = random.choice(["0", "1", "2", "-1", "12", "true", "false", '""', '"a"', '"b"', '"ab"', "[]", "{}"])
        if document[word.end():word.end() + 1] == ":":
            other = random.choice(['"a"', '"b"', '"c"', '"d"', '"aa"'])
        changed = document[:word.start()] + other + document[word.end():]
        found |= {changed, changed[:word.start() + len(other)], changed[:random.randint(0, len(changed))]}
    return found


def prefix_refused_at(documents, prefix):
    """The greatest n such that some document begins with the first n characters of a prefix, or None if with all.

    The documents are in ascending order.
    """
    for cut in range(1, len(prefix) + 1):
        at = bisect.bisect_left(documents, prefix[:cut])
        if not documents[at:at + 1] or not documents[at].startswith(prefix[:cut]):
            return cut - 1
    return None


def random_small_value(random):
    return random.choice([0, True, "a", [], [1], [True], ["a", 2], {}, {"a": 1}, {"a": True}, {"a": 0, "c": "b"}])


def random_members(random, depth):
    members = []
    for name in random.choice(["", "a", "b", "ab", "ac", "abc", "bc"]):
        schema = random_schema(random, depth - 1)
        if random.random() < 0.3 and members:
            schema = random.choice([("repeat", members[0][0]), ("sized", random_plain(random), members[0][0])])
        members.append((name, schema, random.random() < 0.7))
    return tuple(members)
