"""Knowledge: what the values of a set have in common."""

from soonknown.errors import NoPath
from soonknown.values import is_whole, kind_of_value, renewed, same, written


def knowledge_of(values):
    """Return the knowledge of a list of values, which is not empty."""
    found = ("value", values[0])
    for value in values[1:]:
        found = joined(found, ("value", value))
    return renewed(found)


def join(first, second):
    """Return the knowledge of the union of two sets of which the knowledge is given."""
    return renewed(joined(first, second))


def implies(first, second):
    """Return whether a knowledge implies another one: whether their join is the other one."""
    return written(joined(first, second)) == written(second)


def joined(first, second):
    """Return the join of two knowledges; it may have parts of both."""
    if first[0] == "value" and second[0] == "value" and same(first[1], second[1]):
        return first
    kinds = sorted(set([*kinds_of(first), *kinds_of(second)]))
    if len(kinds) > 1:
        return ("mixed", tuple(kinds))
    if kinds[0] == "flag":
        return ("flag",)
    if kinds[0] == "integer":
        return joined_integers(spread(first), spread(second))
    if kinds[0] == "string":
        return joined_strings(spread(first), spread(second))
    if kinds[0] == "list":
        return joined_lists(spread(first), spread(second))
    return joined_records(spread(first), spread(second))


def kinds_of(knowledge):
    """Return the kinds of the values that a knowledge is of."""
    if knowledge[0] == "mixed":
        return knowledge[1]
    return (kind_of_value(knowledge[1]) if knowledge[0] == "value" else knowledge[0],)


def spread(knowledge):
    """Return a knowledge in the form of its kind, also if only one value is possible."""
    if knowledge[0] != "value":
        return knowledge
    value = knowledge[1]
    if isinstance(value, str):
        return ("string", value, len(value), len(value))
    if isinstance(value, list):
        return ("list", len(value), len(value), tuple([("value", item) for item in value]))
    if isinstance(value, dict):
        return ("record", tuple([(name, "always", ("value", value[name])) for name in sorted(value)]))
    return ("integer", value, value)


def joined_integers(first, second):
    """Return the join of two knowledges of integers."""
    return ("integer", min(first[1], second[1]), max(first[2], second[2]))


def joined_strings(first, second):
    """Return the join of two knowledges of strings."""
    start = common_start(first[1], second[1])
    return ("string", start, min(first[2], second[2]), max(first[3], second[3]))


def common_start(first, second):
    """Return the longest text with which two texts begin."""
    size = 0
    while size < min(len(first), len(second)) and first[size] == second[size]:
        size += 1
    return first[:size]


def joined_lists(first, second):
    """Return the join of two knowledges of lists."""
    items = tuple([joined(one, other) for one, other in zip(first[3], second[3])])
    return ("list", min(first[1], second[1]), max(first[2], second[2]), items)


def joined_records(first, second):
    """Return the join of two knowledges of records."""
    rows = {row[0]: row for row in first[1]}
    others = {row[0]: row for row in second[1]}
    found = []
    for name in sorted(set([*rows, *others])):
        if name in rows and name in others:
            presence = "always" if rows[name][1] == others[name][1] == "always" else "sometimes"
            found.append((name, presence, joined(rows[name][2], others[name][2])))
        else:
            found.append((name, "sometimes", rows[name][2] if name in rows else others[name][2]))
    return ("record", tuple(found))


def knowledge_at(knowledge, path):
    """Return the knowledge to which a path leads."""
    found = led_to(knowledge, path)
    if found is None:
        raise NoPath(path)
    return renewed(found)


def led_to(knowledge, path):
    """Return the knowledge to which any value leads as a path, or None."""
    if not isinstance(path, tuple):
        return None
    found = knowledge
    for step in path:
        found = part_at(found, step)
        if found is None:
            return None
    return found


def part_at(knowledge, step):
    """Return the knowledge of the part to which a single step leads, or None."""
    # Any value may come here: it is not compared before it is known to be a name or a position.
    if isinstance(step, str):
        for name, part in parts_of(knowledge):
            if name == step:
                return part
    if is_whole(step):
        for at, part in parts_of(knowledge):
            if at == step:
                return part
    return None


def parts_of(knowledge):
    """Return pairs of a step and the knowledge to which it leads, in ascending order of the steps."""
    if knowledge[0] == "value" and isinstance(knowledge[1], (list, dict)):
        return parts_of(spread(knowledge))
    if knowledge[0] == "list":
        return list(enumerate(knowledge[3]))
    if knowledge[0] == "record":
        return [(row[0], row[2]) for row in knowledge[1]]
    return []


def paths_of(knowledge):
    """Return the list of all paths that lead somewhere, each one before those that continue it."""
    found = [()]
    for step, part in parts_of(knowledge):
        found.extend([(step, *path) for path in paths_of(part)])
    return found
