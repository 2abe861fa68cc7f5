"""What is known of the values of a part of a grammar for which there is so much room."""

from soonknown.knowledge import joined, knowledge_of
from soonknown.lengths import Lengths, name_length
from soonknown.tallies import POWERS
from soonknown.values import read_document


def known_integer(least, greatest, room):
    """Return the knowledge of the integers of a range that have at most so many characters."""
    most = len(POWERS) - 1
    # A negative one has a digit less.
    low = max(least, 1 - POWERS[min(room - 1, most)])
    high = min(greatest, POWERS[min(room, most)] - 1)
    return ("value", low) if low == high else ("integer", low, high)


def known_text(part, room):
    """Return the knowledge of the strings of a text that have at most so many characters with their quotes."""
    _, start, letters, least, greatest = part
    longest = min(greatest, room - 2)
    if len(letters) == 1:
        start = start + letters * (least - len(start))
    return ("value", start) if len(start) == longest else ("string", start, least, longest)


def are_single(knowledges):
    """Return whether all of some knowledges have one value."""
    return [knowledge for knowledge in knowledges if knowledge[0] != "value"] == []


class Outlook:
    """The knowledge of the values of the parts of a grammar. What is returned may have lists and dicts in common."""

    def __init__(self, grammar):
        self.grammar = grammar
        self.least_lengths = Lengths(grammar, False)
        self.most_lengths = Lengths(grammar, True)
        self.done = {}

    def knowledge(self, number, room):
        """Return the knowledge of the values of a part that have at most so many characters; there is one."""
        key = (number, min(room, self.most_lengths.length_of(number)))
        if key not in self.done:
            self.done[key] = self.worked_out(self.grammar.parts[number], number, key[1])
        return self.done[key]

    def worked_out(self, part, number, room):
        """Return a knowledge that has not been kept yet."""
        form = part[0]
        if form == "integer":
            return known_integer(part[1], part[2], room)
        if form == "words":
            return knowledge_of([read_document(text) for text in part[1] if len(text) <= room])
        if form == "text":
            return known_text(part, room)
        if form == "list":
            return self.known_list(number, room)
        if form == "record":
            return self.known_record(part[1], room)
        return self.known_of_all(part[1], room)

    def known_of_all(self, numbers, room):
        """Return the knowledge of the values of some parts that have at most so many characters; None if none has."""
        found = None
        for number in numbers:
            if self.least_lengths.length_of(number) <= room:
                more = self.knowledge(number, room)
                found = more if found is None else joined(found, more)
        return found

    def known_list(self, number, room):
        """Return the knowledge of the lists of a part that have at most so many characters."""
        _, _, _, least, greatest = self.grammar.parts[number]
        spare = room - self.least_lengths.length_of(number)
        items = []
        for at in range(least):
            item = self.grammar.item_at(number, at)
            items.append(self.knowledge(item, self.least_lengths.length_of(item) + spare))
        longest = least
        # Each item takes one character more, the comma or the bracket behind it.
        left = room - 1 - self.least_lengths.items_length(number)
        while longest < greatest:
            left = left - 1 - self.least_lengths.length_of(self.grammar.item_at(number, longest))
            if left < 0:
                break
            longest += 1
        if longest == least and are_single(items):
            return ("value", [item[1] for item in items])
        return ("list", least, longest, tuple(items))

    def known_record(self, members, room):
        """Return the knowledge of the records of some members that have at most so many characters."""
        rows = self.rows_of(members, room - 1 - self.least_lengths.members_length(members))
        found = [(name, rows[name][0], rows[name][1]) for name in sorted(rows)]
        if are_single([row[2] for row in found]) and [row for row in found if row[1] != "always"] == []:
            return ("value", {row[0]: row[2][1] for row in found})
        return ("record", tuple(found))

    def rows_of(self, members, spare):
        """Return a dict from the names that may occur to (presence, knowledge).

        So many characters are left over if each required member has its shortest value.
        """
        found = {}
        for name, number, required in members:
            dependents = self.grammar.dependents(members, name)
            if dependents != ():
                found.update(self.rows_of_source(name, number, dependents, spare))
            elif self.grammar.source_of(number) == "":
                least = self.least_lengths.length_of(number)
                left = spare if required else spare - 1 - name_length(name) - least
                if left >= 0:
                    found[name] = ("always" if required else "sometimes", self.knowledge(number, least + left))
        return found

    def rows_of_source(self, name, number, dependents, spare):
        """Return the rows of a member and of those that depend on it."""
        values = []
        found = {}
        room = spare + self.least_lengths.value_length(name, number, dependents)
        for text in self.grammar.documents_of(number):
            left = room - self.least_lengths.length_with(name, text, dependents)
            if left >= 0:
                values.append(read_document(text))
                for other, row in self.rows_of(self.grammar.with_value(dependents, name, text), left).items():
                    found[other] = (row[0], joined(found[other][1], row[1])) if other in found else row
        found[name] = ("always", knowledge_of(values))
        return found
