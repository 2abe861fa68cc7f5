"""The completions of a prefix: whether there are any, what they begin with, how many there are, and each of them."""

from soonknown.errors import BadDocument, BadPrefix, NoRoom, NoSuchCompletion
from soonknown.prefixes import COMPLETE, begin, has_room, missing, start
from soonknown.spots import END
from soonknown.supply import Supply


def has_completion(schema, prefix, *, limit=None):
    """Return whether any value, as a prefix, has a completion within a limit."""
    try:
        begin(schema, prefix, limit)
    except (BadPrefix, NoRoom):
        return False
    return True


def offered(schema, prefix, *, limit=None):
    """Return the list of the characters with which some completion goes on, in ascending order."""
    ways, spots = begin(schema, prefix, limit)
    return signs_within(ways, spots, len(prefix), limit)


def signs_within(ways, spots, read, limit):
    """Return the characters that may come at some spots and leave room for the rest of a document."""
    if limit is None:
        return ways.signs(spots)
    return [sign for sign in ways.signs(spots) if has_room(ways, ways.spots_after(spots, sign), read + 1, limit)]


def is_complete(schema, prefix):
    """Return whether any value, as a prefix, is the document of a value of a schema."""
    try:
        _, spots = begin(schema, prefix, None)
    except BadPrefix:
        return False
    return COMPLETE in spots


def forced_text(schema, prefix, *, limit=None):
    """Return the longest text with which the documents of all completions go on."""
    ways, spots = begin(schema, prefix, limit)
    text = []
    # A complete document may go on, too, if it is an integer; but then it is not forced to.
    while COMPLETE not in spots:
        signs = signs_within(ways, spots, len(prefix) + len(text), limit)
        if len(signs) > 1:
            break
        text.append(signs[0])
        spots = ways.spots_after(spots, signs[0])
    return "".join(text)


def count(schema, prefix, *, limit=None):
    """Return the number of completions."""
    ways, spots = begin(schema, prefix, limit)
    return Supply(ways, limit).many(spots, len(prefix))


def completion(schema, prefix, number, *, limit=None):
    """Return the document of the completion with a number."""
    ways, spots = begin(schema, prefix, limit)
    supply = Supply(ways, limit)
    many = supply.many(spots, len(prefix))
    if not 0 <= number < many:
        raise NoSuchCompletion(many)
    return prefix + text_with(supply, spots, len(prefix), number)


def text_with(supply, spots, read, number):
    """Return the text with a number among all that go on from some spots if so many characters have been read."""
    text = []
    left = number
    while COMPLETE not in spots or left > 0:
        inner = inner_spots(supply, spots)
        if inner != []:
            rest = spots[0][-1]
            share, left = divmod(left, supply.many_behind(rest, 0))
            text.extend(text_with(supply, inner, 0, share))
            spots = [("ended", rest)]
        else:
            left = left - 1 if COMPLETE in spots else left
            sign, left = next_sign(supply, spots, read + len(text), left)
            text.append(sign)
            spots = supply.ways.spots_after(spots, sign)
    return "".join(text)


def inner_spots(supply, spots):
    """Return the spots of the value that is being read, without what stands behind it; none if both go together.

    If nothing is limited, each text of a value that has an end of its own goes on in the same ways. Then numbers are
    put together of those of the value and of what is behind it, which are much smaller if the document is long.
    """
    if supply.limit is not None or len(spots) > 1 or spots[0][-1] == END:
        return []
    spot = spots[0]
    has_end = spot[0] in ("word", "words", "text", "opened")
    if has_end or (spot[0] == "value" and supply.ways.grammar.has_end(spot[1])):
        return [(*spot[:-1], END)]
    return []


def next_sign(supply, spots, read, number):
    """Return the next character of the document with a number, and its number among those that go on with it."""
    for sign in supply.ways.signs(spots):
        many = supply.many(supply.ways.spots_after(spots, sign), read + 1)
        if number < many:
            return sign, number
        number = number - many
    raise NoSuchCompletion(number)


def rank(schema, text, *, limit=None):
    """Return the number of a document among the completions of the empty text."""
    ways, spots = start(schema)
    if COMPLETE not in spots_behind(ways, spots, text) or (limit is not None and len(text) > limit):
        raise BadDocument(len(text))
    number, _ = rank_from(Supply(ways, limit), spots, text, 0)
    return number


def spots_behind(ways, spots, text):
    """Return the spots behind any value, as a text, from some spots on."""
    if not isinstance(text, str):
        raise BadDocument(0)
    for at, sign in enumerate(text):
        spots = ways.spots_after(spots, sign)
        if spots == []:
            raise BadDocument(at)
    return spots


def rank_from(supply, spots, text, at):
    """Return the number of the text from an index on, among all that go on from some spots, and the index behind it."""
    ways = supply.ways
    number = 0
    while at < len(text) and spots != [COMPLETE]:
        inner = inner_spots(supply, spots)
        if inner != []:
            rest = spots[0][-1]
            share, at = rank_from(supply, inner, text, at)
            number = number + share * supply.many_behind(rest, 0)
            spots = [("ended", rest)]
        else:
            number = number + (1 if COMPLETE in spots else 0)
            for other in ways.signs(spots):
                if other < text[at]:
                    number = number + supply.many(ways.spots_after(spots, other), at + 1)
            spots = ways.spots_after(spots, text[at])
            at += 1
    return number, at


def shortest(schema, prefix, *, limit=None):
    """Return the document of a shortest completion, the first one of these."""
    ways, spots = begin(schema, prefix, limit)
    text = list(prefix)
    left = missing(ways, spots)
    while left > 0:
        left = left - 1
        sign = first_sign(ways, spots, left)
        text.append(sign)
        spots = ways.spots_after(spots, sign)
    return "".join(text)


def first_sign(ways, spots, left):
    """Return the first character behind which only so many characters are missing."""
    for sign in ways.signs(spots):
        if missing(ways, ways.spots_after(spots, sign)) == left:
            return sign
    return ""
