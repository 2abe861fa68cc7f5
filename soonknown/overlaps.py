"""How many values two parts of a grammar have in common."""

from soonknown.links import Links
from soonknown.tallies import Tallies, common_size, text_pairs


def common_texts(first, second):
    """Return how many strings two texts have in common."""
    _, start, letters, least, greatest = first
    _, longer, others, lowest, highest = second
    if len(start) > len(longer):
        return common_texts(second, first)
    if not longer.startswith(start) or not has_only(longer[len(start):], letters):
        return 0
    both = [letter for letter in letters if letter in others]
    shortest = max(least, lowest, len(longer)) - len(longer)
    return sum([many for _, many in text_pairs(len(both), shortest, min(greatest, highest) - len(longer))])


def has_only(word, letters):
    """Return whether all letters of a word are among some letters."""
    return [letter for letter in word if letter not in letters] == []


def is_text_of(text, document):
    """Return whether a text has the string with a document, if it is the document of one."""
    _, start, letters, least, greatest = text
    word = document[1:-1]
    if document[0] != '"' or not least <= len(word) <= greatest or not word.startswith(start):
        return False
    return has_only(word[len(start):], letters)


class Overlaps:
    """The numbers of values that parts of a grammar have in common."""

    def __init__(self, grammar):
        self.grammar = grammar
        self.tallies = Tallies(grammar, None)
        self.done = {}

    def size(self, number):
        """Return how many values a part has."""
        return self.tallies.row(number)[0]

    def common(self, first, second):
        """Return how many values two parts have in common."""
        key = (first, second)
        if key not in self.done:
            self.done[key] = self.worked_out(first, second)
        return self.done[key]

    def worked_out(self, first, second):
        """Return what two parts have in common if it has not been kept yet."""
        part = self.grammar.parts[first]
        other = self.grammar.parts[second]
        if part[0] == "either":
            return sum([self.common(alternative, second) for alternative in part[1]])
        if other[0] == "either" or (part[0] == "text" and other[0] == "words"):
            return self.common(second, first)
        if part[0] == "words" and other[0] == "text":
            return len([document for document in part[1] if is_text_of(other, document)])
        if part[0] != other[0]:
            return 0
        if part[0] == "integer":
            return common_size(part[1], part[2], other[1], other[2])
        if part[0] == "words":
            return len([document for document in part[1] if document in other[1]])
        if part[0] == "text":
            return common_texts(part, other)
        if part[0] == "record" or part[0] == "members":
            return self.common_records(part[1], other[1])
        return self.common_lists(first, second)

    def common_lists(self, first, second):
        """Return how many lists, or rests of lists, two parts have in common."""
        _, _, _, least, greatest = self.grammar.parts[first]
        _, _, _, lowest, highest = self.grammar.parts[second]
        # From the last position on to the first one: in front of it there may be one item more.
        found = 0
        for at in range(min(greatest, highest), -1, -1):
            if at < min(greatest, highest):
                found = found * self.common(self.grammar.item_at(first, at), self.grammar.item_at(second, at))
            if at >= max(least, lowest):
                found = found + 1
        return found

    def common_records(self, members, others):
        """Return how many records two tuples of members have in common."""
        ours = {member[0]: member for member in members}
        theirs = {member[0]: member for member in others}
        product = 1
        linked = []
        for name in sorted(set([*ours, *theirs])):
            if name not in ours or name not in theirs:
                # The member cannot occur.
                alone = ours[name] if name in ours else theirs[name]
                product = 0 if alone[2] else product
            elif self.is_linked(members, ours[name]) or self.is_linked(others, theirs[name]):
                linked.append(name)
            else:
                optional = 0 if ours[name][2] or theirs[name][2] else 1
                product = product * (optional + self.common(ours[name][1], theirs[name][1]))
        if product == 0 or linked == []:
            return product
        return product * self.common_linked(ours, theirs, linked)

    def is_linked(self, members, member):
        """Return whether a member depends on another one, or another one on it."""
        return self.grammar.source_of(member[1]) != "" or self.grammar.is_source(members, member[0])

    def common_linked(self, ours, theirs, names):
        """Return how many records two dicts from names to members have in common, of members that are linked."""
        rows = [[]]
        for name in names:
            longer = [[*row, name] for row in rows]
            required = ours[name][2] or theirs[name][2]
            rows = longer if required else rows + longer
        found = 0
        for row in rows:
            links = Links(self, row)
            links.add_members(ours)
            links.add_members(theirs)
            found = found + links.count_records()
        return found
