"""Records of certain names whose members depend on each other by two schemas at once."""


class Links:
    """What two schemas require of the members of certain names.

    Names that must have the same value are put into one group, by the first of these names. The values that a group
    may have are tried one after the other: one of its names is repeated or is a size, so there are few.
    """

    def __init__(self, overlaps, names):
        self.overlaps = overlaps
        self.grammar = overlaps.grammar
        self.groups = {name: name for name in names}
        # For each name the parts that it must have.
        self.parts = {name: [] for name in names}
        # For each name of a list with a size: (name of the size, item).
        self.sizes = {name: [] for name in names}
        # (name, part) for the names that are repeated or are a size.
        self.sources = []

    def add_members(self, members):
        """Add what a schema requires, by a dict from names to members."""
        for name in self.parts:
            number = members[name][1]
            source = self.grammar.source_of(number)
            if self.grammar.is_source(list(members.values()), name):
                self.sources.append((name, number))
            if source == "":
                self.parts[name].append(number)
            elif self.grammar.parts[number][0] == "sized":
                self.sizes[name].append((source, self.grammar.parts[number][1]))
            else:
                self.unite(name, source)

    def unite(self, name, other):
        """Put the groups of two names together."""
        group = self.groups[name]
        for member in list(self.groups):
            if self.groups[member] == group:
                self.groups[member] = self.groups[other]

    def count_records(self):
        """Return how many records there are."""
        for name, rows in self.sizes.items():
            # A list with two sizes has one of them twice.
            if len(rows) == 2:
                self.unite(rows[0][0], rows[1][0])
            # What has a size is a list, and what is repeated is none.
            if rows != [] and len(self.names_of(self.groups[name])) > 1:
                return 0
        product = 1
        for group in self.parts:
            names = self.names_of(group)
            if names != [] and self.sizes[group] == []:
                product = product * self.count_group(names)
        return product

    def names_of(self, group):
        """Return the names of a group."""
        return [name for name in self.groups if self.groups[name] == group]

    def count_group(self, names):
        """Return how many ways there are for the value of a group, with the lists of which it is the size."""
        parts = [part for name in names for part in self.parts[name]]
        documents = [self.grammar.documents_of(part) for name, part in self.sources if name in names]
        found = 0
        for document in min(documents, key=len):
            alone = self.grammar.part_of_document(document)
            if [part for part in parts if self.overlaps.common(alone, part) == 0] == []:
                found = found + self.count_lists(names, document)
        return found

    def count_lists(self, names, document):
        """Return how many ways there are for the lists of which some names are the size, by its document."""
        product = 1
        for name, rows in self.sizes.items():
            if rows != [] and rows[0][0] in names:
                size = int(document)
                lists = [self.grammar.row("list", (), item, size, size) for _, item in rows]
                # With one size only, the other schema says what the list is without looking at another member.
                first, second = [*lists, *self.parts[name]]
                product = product * self.overlaps.common(first, second)
        return product
