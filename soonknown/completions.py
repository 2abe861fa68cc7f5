"""The completions of a prefix: whether there are any, what they begin with, how many there are, and each of them."""

from soonknown.errors import BadDocument, BadPrefix, NoRoom, NoSuchCompletion
from soonknown.prefixes import COMPLETE, begin, has_room, missing, start
from soonknown.supply import Supply


def has_completion(schema, prefix, *, limit=None):
    """Return whether any value, as a prefix, has a completion within a limit."""
    try:
        begin(schema, prefix, limit)
    except (BadPrefix, NoRoom):
        return False
    return True


def offered(schema, prefix, *, limit=None):
    """Return the list of the characters with which some completion goes on, in ascending order."""
    ways, spots = begin(schema, prefix, limit)
    return signs_within(ways, spots, len(prefix), limit)


def signs_within(ways, spots, read, limit):
    """Return the characters that may come at some spots and leave room for the rest of a document."""
    if limit is None:
        return ways.signs(spots)
    return [sign for sign in ways.signs(spots) if has_room(ways, ways.spots_after(spots, sign), read + 1, limit)]


def is_complete(schema, prefix):
    """Return whether any value, as a prefix, is the document of a value of a schema."""
    try:
        _, spots = begin(schema, prefix, None)
    except BadPrefix:
        return False
    return COMPLETE in spots


def forced_text(schema, prefix, *, limit=None):
    """Return the longest text with which the documents of all completions go on."""
    ways, spots = begin(schema, prefix, limit)
    text = []
    # A complete document may go on, too, if it is an integer; but then it is not forced to.
    while COMPLETE not in spots:
        signs = signs_within(ways, spots, len(prefix) + len(text), limit)
        if len(signs) > 1:
            break
        text.append(signs[0])
        spots = ways.spots_after(spots, signs[0])
    return "".join(text)


def count(schema, prefix, *, limit=None):
    """Return the number of completions."""
    ways, spots = begin(schema, prefix, limit)
    return Supply(ways, limit).many(spots, len(prefix))


def completion(schema, prefix, number, *, limit=None):
    """Return the document of the completion with a number."""
    ways, spots = begin(schema, prefix, limit)
    supply = Supply(ways, limit)
    many = supply.many(spots, len(prefix))
    if not 0 <= number < many:
        raise NoSuchCompletion(many)
    text = list(prefix)
    left = number
    while True:
        if COMPLETE in spots:
            if left == 0:
                return "".join(text)
            left = left - 1
        sign, left = next_sign(supply, spots, len(text), left)
        text.append(sign)
        spots = ways.spots_after(spots, sign)


def next_sign(supply, spots, read, number):
    """Return the next character of the document with a number, and its number among those that go on with it."""
    for sign in supply.ways.signs(spots):
        many = supply.many(supply.ways.spots_after(spots, sign), read + 1)
        if number < many:
            return sign, number
        number = number - many
    raise NoSuchCompletion(number)


def rank(schema, text, *, limit=None):
    """Return the number of a document among the completions of the empty text."""
    ways, found = spots_before(schema, text)
    if COMPLETE not in found[-1] or (limit is not None and len(text) > limit):
        raise BadDocument(len(text))
    supply = Supply(ways, limit)
    number = 0
    for read, sign in enumerate(text):
        spots = found[read]
        if COMPLETE in spots:
            number = number + 1
        for other in ways.signs(spots):
            if other < sign:
                number = number + supply.many(ways.spots_after(spots, other), read + 1)
    return number


def spots_before(schema, text):
    """Return the Spots of a schema, and a list of the spots before each character of a text and behind it."""
    if not isinstance(text, str):
        raise BadDocument(0)
    ways, spots = start(schema)
    found = [spots]
    for at, sign in enumerate(text):
        spots = ways.spots_after(spots, sign)
        if spots == []:
            raise BadDocument(at)
        found.append(spots)
    return ways, found


def shortest(schema, prefix, *, limit=None):
    """Return the document of a shortest completion, the first one of these."""
    ways, spots = begin(schema, prefix, limit)
    text = list(prefix)
    left = missing(ways, spots)
    while left > 0:
        left = left - 1
        sign = first_sign(ways, spots, left)
        text.append(sign)
        spots = ways.spots_after(spots, sign)
    return "".join(text)


def first_sign(ways, spots, left):
    """Return the first character behind which only so many characters are missing."""
    for sign in ways.signs(spots):
        if missing(ways, ways.spots_after(spots, sign)) == left:
            return sign
    return ""
