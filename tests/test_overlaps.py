"""How many values two schemas have in common, against all values of both."""

import random
import time
import unittest

import samples
from soonknown.grammar import Grammar
from soonknown.overlaps import Overlaps


def with_other_dependents(source, schema):
    """A record with the same names, some members of which are others."""
    members = []
    for name, part, required in schema[1]:
        earlier = [member[0] for member in members]
        if source.random() < 0.4:
            choice = [samples.random_source(source), part]
            if earlier:
                item = source.choice([("flag",), ("integer", 0, 1), ("just", 0)])
                choice += [("repeat", source.choice(earlier)), ("repeat", source.choice(earlier)),
                           ("sized", item, source.choice(earlier))]
            part = source.choice(choice)
        members.append((name, part, required if source.random() < 0.8 else not required))
    return ("record", tuple(members))


class Common(unittest.TestCase):
    def check(self, first, second):
        grammar = Grammar()
        overlaps = Overlaps(grammar)
        ours, others = set(samples.documents_of(first)), set(samples.documents_of(second))
        parts = [grammar.part_of(schema) for schema in (first, second)]
        self.assertEqual(overlaps.common(*parts), len(ours & others), (first, second))
        self.assertEqual([overlaps.size(part) for part in parts], [len(ours), len(others)])
        return ours & others != set()

    def test_small_schemas_of_every_form(self):
        source = random.Random(111)
        schemas = samples.small_schemas(source, 120, 60)
        for first in schemas:
            for second in [first] + source.sample(schemas, 10):
                self.check(first, second)

    def test_records_that_depend_on_other_names(self):
        source = random.Random(112)
        met = 0
        done = 0
        while done < 1500:
            first = samples.random_linked(source)
            second = with_other_dependents(source, first)
            small = all(samples.is_schema(schema) and samples.most_values(schema) < 1500 for schema in (first, second))
            if small:
                met += self.check(first, second)
                done += 1
        self.assertGreater(met, 300)

    def test_chains_of_repeats(self):
        flag = ("flag",)
        number = ("integer", 0, 2)
        size = ("integer", 0, 2)
        base = tuple((name, number, True) for name in "abc")
        last = [tuple((name, ("repeat", other), required) for name, other in zip("def", order))
                for order in ("abc", "bca", "aab", "ccc") for required in (True, False)]
        last += [(("d", ("sized", flag, "a"), True), ("e", ("sized", flag, "b"), False), ("f", ("repeat", "c"), True)),
                 (("d", ("sized", ("just", True), "b"), True), ("e", ("list", (), flag, 1, 2), False),
                  ("f", ("repeat", "a"), False)),
                 (("d", ("list", (), flag, 0, 1), True), ("e", ("sized", flag, "a"), True), ("f", size, False)),
                 (("d", flag, False), ("e", ("repeat", "a"), False), ("f", ("integer", 1, 5), True))]
        records = [("record", base + more) for more in last]
        for first in records:
            for second in records:
                self.check(first, second)

    def test_many_repeats_do_not_take_long(self):
        members = [(name, ("integer", 0, 39), True) for name in "abcd"]
        begun = time.process_time()
        for order in ("abcd", "dcba", "bcda", "aaaa"):
            schemas = [("record", (*members, *((name, ("repeat", other), False) for name, other in zip("efgh", row))))
                       for row in ("abcd", order)]
            grammar = Grammar()
            found = Overlaps(grammar).common(*[grammar.part_of(schema) for schema in schemas])
            if order == "dcba":
                # Two pairs of members: each of both may be there if the two that it repeats are the same.
                self.assertEqual(found, (40 * 39 + 40 * 4) ** 2)
            self.assertGreater(found, 40 ** 4)
        self.assertLess(time.process_time() - begun, 20)


if __name__ == "__main__":
    unittest.main()
