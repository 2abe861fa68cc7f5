"""The least and the greatest lengths of parts of a grammar."""


def name_length(name):
    """Return the length of what stands in front of the value of a member: a name between quotes and a colon."""
    return len(name) + 3


class Lengths:
    """The shortest lengths of the parts of a grammar, or the longest ones."""

    def __init__(self, grammar, longest):
        self.grammar = grammar
        self.longest = longest
        self.done = {}

    def pick(self, lengths):
        """Return the least or the greatest one of some lengths."""
        return max(lengths) if self.longest else min(lengths)

    def length_of(self, number):
        """Return the least or greatest length of a part; of a rest without what stands behind its container."""
        if number not in self.done:
            self.done[number] = self.worked_out(self.grammar.parts[number], number)
        return self.done[number]

    def worked_out(self, part, number):
        """Return the length of a part that has not been kept yet."""
        form = part[0]
        if form == "integer":
            return self.integer_length(part[1], part[2])
        if form == "words":
            return self.pick([len(word) for word in part[1]])
        if form == "text":
            return self.pick([part[3], part[4]]) + 2
        if form == "either":
            return self.pick([self.length_of(alternative) for alternative in part[1]])
        # Each item and each member takes one character more, a comma or the bracket behind it.
        if form == "items":
            return 1 + self.items_length(number)
        if form == "members":
            return 1 + self.members_length(part[1])
        size = self.items_length(number) if form == "list" else self.members_length(part[1])
        return max(2, 1 + size)

    def integer_length(self, least, greatest):
        """Return the length of the integer of a range that is nearest to 0 or of one that is farthest from it."""
        if self.longest:
            return max(len(str(least)), len(str(greatest)))
        if least <= 0 <= greatest:
            return 1
        return len(str(least)) if least > 0 else len(str(greatest))

    def items_length(self, number):
        """Return the length of the items of a list, each with one character more."""
        part = self.grammar.parts[number]
        many = self.pick([part[3], part[4]])
        return sum([1 + self.length_of(self.grammar.item_at(number, at)) for at in range(many)])

    def members_length(self, members):
        """Return the length of members, each with one character more."""
        found = 0
        for name, number, required in members:
            # A repeat or a sized is measured with the member that it names.
            if self.grammar.source_of(number) == "" and (required or self.longest):
                dependents = self.grammar.dependents(members, name)
                found = found + 1 + name_length(name) + self.value_length(name, number, dependents)
        return found

    def value_length(self, name, number, dependents):
        """Return the length of the value of a member together with the members that depend on it."""
        if dependents == ():
            return self.length_of(number)
        return self.pick([self.length_with(name, text, dependents) for text in self.grammar.documents_of(number)])

    def length_with(self, name, text, dependents):
        """Return the length of a document together with the members that depend on it."""
        return len(text) + self.members_length(self.grammar.with_value(dependents, name, text))
