"""Short values of a part of a grammar that differ at a path.

In these functions a choice is a list of values or records. The shortest one of a choice is the first of those that
have the least length. None stands for a value that there is not.
"""

from soonknown.lengths import Lengths
from soonknown.values import document, is_whole, read_document, same


def part_of_value(value, path):
    """Return the part of a value to which any value, as a path, leads, or None."""
    if not isinstance(path, tuple):
        return None
    for step in path:
        if isinstance(value, dict) and isinstance(step, str):
            value = value.get(step)
        elif isinstance(value, list) and is_whole(step) and 0 <= step < len(value):
            value = value[step]
        else:
            return None
    return value


def differ(first, second, path):
    """Return whether a path leads to different parts of two values, or to a part of exactly one of them."""
    part = part_of_value(first, path)
    other = part_of_value(second, path)
    if part is None or other is None:
        return (part is None) != (other is None)
    return not same(part, other)


def shortest_of(choice):
    """Return the shortest one of a choice; None if there is none."""
    there = [value for value in choice if value is not None]
    return min(there, key=lambda value: len(document(value))) if there else None


def combined(triples, path):
    """Return the contrasts for a path in all values of several parts, from the contrasts in those of each one."""
    first = shortest_of([triple[1] for triple in triples])
    others = []
    for triple in triples:
        others.extend([value for value in triple[1:] if value is not None and differ(first, value, path)])
    return shortest_of([triple[0] for triple in triples]), first, shortest_of(others)


def put_in(record, members):
    """Return a record with more members; None if there are none."""
    return None if members is None else {**record, **members}


class Contrasts:
    """Short values of the parts of a grammar. What is returned may have lists and dicts in common."""

    def __init__(self, grammar):
        self.grammar = grammar
        self.least_lengths = Lengths(grammar, False)
        self.done = {}

    def contrasts(self, number, path):
        """Return (without, first, second) for a path and the values of a part.

        They are the shortest value in which the path leads nowhere, the shortest one in which it leads to a part, and
        the shortest one in which it leads to a part that is not the same as that in the first one.
        """
        part = self.grammar.parts[number]
        if path == ():
            first, second = self.two(number)
            return None, first, second
        if part[0] == "either":
            return combined([self.contrasts(alternative, path) for alternative in part[1]], path)
        if part[0] == "list" and is_whole(path[0]) and 0 <= path[0] < part[4]:
            return self.contrasts_in_list(number, path)
        if part[0] == "record" and isinstance(path[0], str):
            return self.contrasts_in_record(part[1], path)
        return self.shortest(number), None, None

    def contrasts_in_list(self, number, path):
        """Return the contrasts for a path that begins with a position that some list of a part has."""
        at = path[0]
        least = self.grammar.parts[number][3]
        without, first, second = self.contrasts(self.grammar.item_at(number, at), path[1:])
        items = [self.shortest(self.grammar.item_at(number, place)) for place in range(max(least, at + 1))]
        found = []
        for value in (without, first, second):
            found.append(None if value is None else [*items[:at], value, *items[at + 1:]])
        short = items[:least] if least <= at else None
        return shortest_of([short, found[0]]), found[1], found[2]

    def contrasts_in_record(self, members, path):
        """Return the contrasts for a path that begins with a name."""
        linked = self.linked(members, path[0])
        others = self.shortest_record([member for member in members if member not in linked])
        found = self.contrasts_in_linked(linked, path)
        return put_in(others, found[0]), put_in(others, found[1]), put_in(others, found[2])

    def linked(self, members, name):
        """Return those members of which a name is one, and which depend on each other; none if no member has it."""
        for member in members:
            if member[0] == name:
                source = self.grammar.source_of(member[1])
                first = name if source == "" else source
                dependents = self.grammar.dependents(members, first)
                return [other for other in members if other[0] == first or other in dependents]
        return []

    def contrasts_in_linked(self, members, path):
        """Return the contrasts, as records, for members that depend on each other."""
        if members == []:
            return {}, None, None
        if len(members) == 1:
            return self.contrasts_in_member(members[0], path)
        name, number, _ = members[0]
        triples = []
        for text in self.grammar.documents_of(number):
            known = (name, self.grammar.part_of_document(text), True)
            parts = [known, *self.grammar.with_value(members[1:], name, text)]
            others = self.shortest_record([member for member in parts if member[0] != path[0]])
            for member in parts:
                if member[0] == path[0]:
                    found = self.contrasts_in_member(member, path)
                    triples.append(tuple([put_in(others, record) for record in found]))
        return combined(triples, path)

    def contrasts_in_member(self, member, path):
        """Return the contrasts, as records, for a member on which no other one depends."""
        name, number, required = member
        found = []
        for value in self.contrasts(number, path[1:]):
            found.append(None if value is None else {name: value})
        return shortest_of([found[0], None if required else {}]), found[1], found[2]

    def shortest(self, number):
        """Return a shortest value of a part."""
        part = self.grammar.parts[number]
        if part[0] == "integer":
            return max(part[1], min(part[2], 0))
        if part[0] == "words":
            return shortest_of([read_document(text) for text in part[1]])
        if part[0] == "text":
            return part[1] + part[2][0] * (part[3] - len(part[1]))
        if part[0] == "list":
            return [self.shortest(self.grammar.item_at(number, at)) for at in range(part[3])]
        if part[0] == "record":
            return self.shortest_record(part[1])
        for alternative in part[1]:
            if self.least_lengths.length_of(alternative) == self.least_lengths.length_of(number):
                return self.shortest(alternative)
        return None

    def shortest_record(self, members):
        """Return a shortest record of members."""
        return self.two_records(tuple(members))[0]

    def two(self, number):
        """Return a shortest value of a part, and a shortest one of the others or None."""
        if number not in self.done:
            self.done[number] = self.worked_out(number)
        return self.done[number]

    def worked_out(self, number):
        """Return what two returns for a part that has not been kept yet."""
        part = self.grammar.parts[number]
        if part[0] == "record":
            return self.two_records(part[1])
        first = self.shortest(number)
        others = []
        if part[0] == "integer":
            others = [value for value in (first + 1, first - 1) if part[1] <= value <= part[2]]
        if part[0] == "words":
            others = [read_document(text) for text in part[1] if text != document(first)]
        if part[0] == "text":
            others = self.other_texts(part)
        if part[0] == "list":
            others = self.other_lists(number, first)
        if part[0] == "either":
            for alternative in part[1]:
                others.extend([value for value in self.two(alternative) if value is not None])
            others = [value for value in others if not same(value, first)]
        return first, shortest_of(others)

    def other_texts(self, part):
        """Return a choice that has a shortest one of the strings of a text but the first one."""
        _, start, letters, least, greatest = part
        found = []
        if least > len(start) and len(letters) > 1:
            found.append(start + letters[0] * (least - len(start) - 1) + letters[1])
        if greatest > least:
            found.append(start + letters[0] * (least + 1 - len(start)))
        return found

    def other_lists(self, number, first):
        """Return a choice that has a shortest one of the lists of a part but the first one."""
        _, _, _, least, greatest = self.grammar.parts[number]
        found = []
        if least < greatest:
            found.append([*first, self.shortest(self.grammar.item_at(number, least))])
        for at in range(least):
            second = self.two(self.grammar.item_at(number, at))[1]
            if second is not None:
                found.append([*first[:at], second, *first[at + 1:]])
        return found

    def two_records(self, members):
        """Return a shortest record of members, and a shortest one of the others or None."""
        first = {}
        seconds = []
        for name, number, required in members:
            # What depends on another member is looked at with it.
            if self.grammar.source_of(number) == "":
                dependents = self.grammar.dependents(members, name)
                one, other = self.two_of_member(name, number, required, dependents)
                seconds = [{**record, **one} for record in seconds]
                if other is not None:
                    seconds.append({**first, **other})
                first = {**first, **one}
        return first, shortest_of(seconds)

    def two_of_member(self, name, number, required, dependents):
        """Return the same as two_records for a member and those that depend on it."""
        if dependents != ():
            return self.two_of_source(name, number, dependents)
        if not required:
            return {}, {name: self.shortest(number)}
        first, second = self.two(number)
        return {name: first}, None if second is None else {name: second}

    def two_of_source(self, name, number, dependents):
        """Return the same as two_records for a member on which others depend."""
        choice = []
        for text in self.grammar.documents_of(number):
            for record in self.two_records(self.grammar.with_value(dependents, name, text)):
                if record is not None:
                    choice.append({name: read_document(text), **record})
        first = shortest_of(choice)
        return first, shortest_of([record for record in choice if not same(record, first)])
