"""Schemas taken apart into numbered parts, so that what is equal is looked at only once.

A part is one of these tuples. The parts inside it stand as their numbers.

- ("integer", least, greatest), ("text", start, letters, least, greatest): as in schemas.
- ("words", documents): flags or strings, as their documents in ascending order.
- ("list", leading, item, least, greatest), ("either", alternatives): as in schemas. A just with a list is such a list.
- ("record", members), ("repeat", name), ("sized", item, name): as in schemas. A just with a record is such a record.
- ("items", leading, item, least, greatest): the rest of a list behind one of its items; between least and greatest
  items are still to come.
- ("members", members): the rest of a record behind one of its members; these members are still to come.
"""

from soonknown.values import document, quoted

# Stands instead of a part where there is none.
NONE = -1


class Grammar:
    """A collection of parts."""

    def __init__(self):
        self.parts = []
        self.numbers = {}

    def numbered(self, part):
        """Return the number of a part; equal parts have the same one."""
        if part not in self.numbers:
            self.numbers[part] = len(self.parts)
            self.parts.append(part)
        return self.numbers[part]

    def part_of(self, schema):
        """Return the number of the part that a schema is."""
        form = schema[0]
        if form == "flag":
            return self.numbered(("words", ("false", "true")))
        if form == "choice":
            return self.numbered(("words", tuple([quoted(word) for word in schema[1]])))
        if form == "just":
            return self.part_of_value(schema[1])
        if form == "list":
            return self.part_of_list(schema)
        if form == "record":
            members = [(name, self.part_of(part), required) for name, part, required in schema[1]]
            return self.numbered(("record", self.with_single_sources(members)))
        if form == "sized":
            return self.numbered(("sized", self.part_of(schema[1]), schema[2]))
        if form == "either":
            return self.numbered(("either", tuple([self.part_of(part) for part in schema[1]])))
        return self.numbered(schema)

    def part_of_value(self, value):
        """Return the number of the part that has one value."""
        if isinstance(value, list):
            leading = [self.part_of_value(item) for item in value]
            return self.row("list", leading, NONE, len(leading), len(leading))
        if isinstance(value, dict):
            members = [(name, self.part_of_value(value[name]), True) for name in sorted(value)]
            return self.numbered(("record", tuple(members)))
        return self.part_of_document(document(value))

    def part_of_document(self, text):
        """Return the number of the part that has the one integer, flag or string with a document."""
        if text[0] in "tf" or text[0] == '"':
            return self.numbered(("words", (text,)))
        return self.numbered(("integer", int(text), int(text)))

    def part_of_list(self, schema):
        """Return the number of the part that a list schema is."""
        _, leading, item, least, greatest = schema
        parts = [self.part_of(part) for part in leading]
        # An item that never stands anywhere is not taken apart.
        return self.row("list", parts, self.part_of(item) if len(leading) < greatest else NONE, least, greatest)

    def row(self, form, leading, item, least, greatest):
        """Return the number of a list or of the rest of one, the same for the same items however they are given."""
        parts = list(leading)
        if len(parts) == greatest:
            item = parts[-1] if parts else NONE
        while parts and parts[-1] == item:
            parts.pop()
        return self.numbered((form, tuple(parts), item, least, greatest))

    def with_single_sources(self, members):
        """Return members, as a tuple, without repeats and sizes of a member that has but one value."""
        found = tuple(members)
        for name, number, _ in members:
            if self.is_source(found, name) and len(self.documents_of(number)) == 1:
                found = self.with_value(found, name, self.documents_of(number)[0])
        return found

    def has_end(self, number):
        """Return whether no document of a part is the beginning of another one, as those of integers may be."""
        part = self.parts[number]
        if part[0] == "either":
            return [alternative for alternative in part[1] if not self.has_end(alternative)] == []
        return part[0] != "integer"

    def head(self, number):
        """Return the number of the next item of a list or of the rest of one."""
        _, leading, item, _, _ = self.parts[number]
        return leading[0] if leading else item

    def behind(self, number):
        """Return the number of what is left of a list, or of the rest of one, behind its next item."""
        _, leading, item, least, greatest = self.parts[number]
        return self.row("items", leading[1:], item, max(least - 1, 0), greatest - 1)

    def item_at(self, number, at):
        """Return the number of the item at a position of a list."""
        _, leading, item, _, _ = self.parts[number]
        return leading[at] if at < len(leading) else item

    def source_of(self, number):
        """Return the name that a repeat or a sized names; an empty string for other parts."""
        part = self.parts[number]
        return part[-1] if part[0] == "repeat" or part[0] == "sized" else ""

    def is_source(self, members, name):
        """Return whether a repeat or a sized among members names the member of a name."""
        for _, number, _ in members:
            if self.source_of(number) == name:
                return True
        return False

    def dependents(self, members, name):
        """Return those members that are a repeat or a sized of the member of a name."""
        return tuple([member for member in members if self.source_of(member[1]) == name])

    def documents_of(self, number):
        """Return the documents of all values of a part that may be repeated or be a size."""
        part = self.parts[number]
        if part[0] == "words":
            return list(part[1])
        return [str(value) for value in range(part[1], part[2] + 1)]

    def with_value(self, members, name, text):
        """Return members in which the repeats and sizes of a name are what they are for a value with this document."""
        found = []
        for member in members:
            if self.source_of(member[1]) == name:
                member = (member[0], self.part_for(member[1], text), member[2])
            found.append(member)
        return tuple(found)

    def part_for(self, number, text):
        """Return the number of what a repeat or a sized is, if what it names has the value with this document."""
        part = self.parts[number]
        if part[0] == "repeat":
            return self.part_of_document(text)
        return self.row("list", (), part[1], int(text), int(text))

    def next_members(self, number):
        """Return what may come next of the members of a record or of the rest of one.

        It is a list of (text, part, rest): the text in front of the value, the number of the part of the value, and
        that of the rest of the record behind it. If other members depend on the value, it is part of the text, and
        NONE stands instead of the part.
        """
        found = []
        members = self.parts[number][1]
        for at, (name, part, required) in enumerate(members):
            text = quoted(name) + ":"
            later = members[at + 1:]
            if self.is_source(later, name):
                for value in self.documents_of(part):
                    rest = self.numbered(("members", self.with_value(later, name, value)))
                    found.append((text + value, NONE, rest))
            else:
                found.append((text, part, self.numbered(("members", later))))
            if required:
                break
        return found

    def may_end(self, number):
        """Return whether a list, a record or the rest of one may be closed at once."""
        part = self.parts[number]
        if part[0] == "list" or part[0] == "items":
            return part[3] == 0
        return [member for member in part[1] if member[2]] == []
