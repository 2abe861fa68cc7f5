"""When schemas are apart: the rules, asked of whole lists of schemas at once.

Eithers within eithers make so many pairs of innermost schemas that it would take far too long to look at each of them.
So what stands at the same place of many schemas is put together and compared as a whole first, and pairs are looked
at only where this leaves it open. In these lists the alternatives of an either stand instead of it.
"""

from soonknown.forms import are_letters_of, integer_range, item_schema, kind_of, list_lengths, schema_by_itself

# What is cheap to compare comes first.
KIND_ORDER = ("flag", "integer", "string", "list", "record")


def alternatives_of(schemas):
    """Return schemas with the alternatives of an either instead of it."""
    found = []
    for schema in schemas:
        found.extend(schema[1] if schema[0] == "either" else (schema,))
    return found


def are_all_apart(firsts, seconds, thorough):
    """Return whether each schema of a list is apart from each one of another list.

    Unless thorough, pairs are not looked at one by one, and False only says that this was left open.
    """
    ours = by_kind(firsts)
    others = by_kind(seconds)
    for kind in KIND_ORDER:
        if kind in ours and kind in others and not are_alike_apart(kind, ours[kind], others[kind], thorough):
            return False
    return True


def by_kind(schemas):
    """Return a dict from kinds to the schemas of this kind."""
    found = {}
    for schema in schemas:
        found.setdefault(kind_of(schema), []).append(schema)
    return found


def are_alike_apart(kind, ours, others, thorough):
    """Return the same as are_all_apart for schemas of one kind."""
    if kind == "flag":
        return are_flags_apart(ours, others)
    if kind == "integer":
        return are_integers_apart(ours, others)
    if kind == "string":
        return are_strings_apart(ours, others)
    if kind == "list" and are_lists_apart(ours, others, thorough):
        return True
    if kind == "record" and are_records_apart(ours, others, thorough):
        return True
    # Of a single pair the rule says all that there is to say.
    alone = len(ours) == 1 and len(others) == 1
    return thorough and not alone and are_pairs_apart(ours, others)


def are_pairs_apart(ours, others):
    """Return the same as are_all_apart for schemas of one kind, by looking at the pairs one by one."""
    for first in ours:
        for second in others:
            if not are_all_apart((first,), (second,), True):
                return False
    return True


def are_parts_apart(ours, others, thorough):
    """Return the same as are_all_apart for what stands at one place of the schemas of two lists.

    Pairs are only looked at if there is one: of more, each pair may be apart at a place of its own.
    """
    if len(ours) == 1 and len(others) == 1:
        return are_all_apart(alternatives_of(ours), alternatives_of(others), thorough)
    # If even the first ones leave it open, it would be in vain to put all of them together.
    if not are_all_apart(alternatives_of(ours[:1]), alternatives_of(others[:1]), False):
        return False
    return are_all_apart(alternatives_of(ours), alternatives_of(others), False)


def are_flags_apart(ours, others):
    """Return whether no flag has a schema of each list."""
    for flag in (False, True):
        if allows_flag(ours, flag) and allows_flag(others, flag):
            return False
    return True


def allows_flag(schemas, flag):
    """Return whether a flag has one of some schemas of flags."""
    for schema in schemas:
        if schema[0] == "flag" or schema[1] == flag:
            return True
    return False


def are_integers_apart(ours, others):
    """Return whether no integer has a schema of each list."""
    return are_ranges_apart([integer_range(schema) for schema in ours], [integer_range(schema) for schema in others])


def are_ranges_apart(ours, others):
    """Return whether no integer is in a range (its least and its greatest integer) of each list."""
    marked = [(least, greatest, 0) for least, greatest in ours]
    marked.extend([(least, greatest, 1) for least, greatest in others])
    ascending = sorted(marked)
    below = ascending[0][0] - 1
    reached = [below, below]
    for least, greatest, side in ascending:
        if least <= reached[1 - side]:
            return False
        reached[side] = max(reached[side], greatest)
    return True


def are_strings_apart(ours, others):
    """Return whether no string has a schema of each list."""
    texts = texts_of(ours)
    other_texts = texts_of(others)
    return not do_texts_meet(texts, other_texts) and not do_texts_meet(other_texts, texts)


def texts_of(schemas):
    """Return texts that have the same strings as some schemas of strings."""
    found = []
    for schema in schemas:
        if schema[0] == "text":
            found.append(schema)
        else:
            words = schema[1] if schema[0] == "choice" else (schema[1],)
            found.extend([("text", word, "", len(word), len(word)) for word in words])
    return found


def do_texts_meet(texts, shorter):
    """Return whether a text has a string in common with a text of another list whose start begins its own start."""
    by_start = {}
    for text in shorter:
        by_start.setdefault(text[1], []).append(text)
    for text in texts:
        for size in range(len(text[1]) + 1):
            for other in by_start.get(text[1][:size], []):
                if has_common_string(other, text):
                    return True
    return False


def has_common_string(first, second):
    """Return whether some string has both of two texts; the start of the first one begins that of the second one."""
    _, start, letters, least, greatest = first
    _, longer, others, lowest, highest = second
    shortest = max(least, lowest)
    if shortest > min(greatest, highest) or not are_letters_of(longer[len(start):], letters):
        return False
    return shortest == len(longer) or [sign for sign in letters if sign in others] != []


def are_lists_apart(ours, others, thorough):
    """Return whether the schemas of lists in two lists are all apart by their lengths or at the same position."""
    lengths = [list_lengths(schema) for schema in ours]
    other_lengths = [list_lengths(schema) for schema in others]
    if are_ranges_apart(lengths, other_lengths):
        return True
    # Behind all leading schemas, every position is like the first one there.
    leading = max([len(schema[1]) for schema in [*ours, *others]])
    least = min([pair[0] for pair in [*lengths, *other_lengths]])
    for at in range(min(least, leading + 1)):
        parts = [item_schema(schema, at) for schema in ours]
        if are_parts_apart(parts, [item_schema(schema, at) for schema in others], thorough):
            return True
    return False


def are_records_apart(ours, others, thorough):
    """Return whether the schemas of records in two lists are all apart by the same name."""
    records = [members_by_name(schema) for schema in ours]
    other_records = [members_by_name(schema) for schema in others]
    if requires_more(records, other_records) or requires_more(other_records, records):
        return True
    for name in records[0]:
        if is_required(records, name) and is_required(other_records, name):
            parts = [record[name][0] for record in records]
            if are_parts_apart(parts, [record[name][0] for record in other_records], thorough):
                return True
    return False


def members_by_name(schema):
    """Return a dict from names to (schema, required) for a record schema or a just with a record."""
    if schema[0] == "just":
        return {name: (("just", value), True) for name, value in schema[1].items()}
    return {name: (schema_by_itself(schema[1], part), required) for name, part, required in schema[1]}


def requires_more(records, others):
    """Return whether some name is required in all records of a list and occurs in none of another list."""
    for name in records[0]:
        if is_required(records, name) and [record for record in others if name in record] == []:
            return True
    return False


def is_required(records, name):
    """Return whether all records require a name."""
    for record in records:
        if name not in record or not record[name][1]:
            return False
    return True
