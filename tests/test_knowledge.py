"""Knowledge of groups of values, joins and paths, against the words of the document."""

import copy
import itertools
import random
import unittest

import samples
from soonknown.errors import NoPath
from soonknown.knowledge import implies, join, knowledge_at, knowledge_of, paths_of

THINGS = [None, 5, True, "a", [], [0], ["a"], {}, {"a": 1}, (None,), ((),), (("a",),), ([],), ({},), (True,), (False,),
          (-1,), (8,), ("zz",), ("",), ("a", "zz"), (0, 0, 0, 0, 0, 0, 0), (0.5,), ("a", True), (0, False), (10 ** 40,)]


def plain_knowledge(values):
    """The knowledge of values, as [13] and [14] tell it."""
    documents = {samples.plain_document(value) for value in values}
    if len(documents) == 1:
        return ("value", values[0])
    kinds = sorted({samples.kind_of_schema(("just", value)) for value in values})
    if len(kinds) > 1:
        return ("mixed", tuple(kinds))
    if kinds == ["flag"]:
        return ("flag",)
    if kinds == ["integer"]:
        return ("integer", min(values), max(values))
    if kinds == ["string"]:
        start = max((values[0][:cut] for cut in range(13) if all(word.startswith(values[0][:cut]) for word in values)),
                    key=len)
        return ("string", start, min(len(word) for word in values), max(len(word) for word in values))
    if kinds == ["list"]:
        least = min(len(value) for value in values)
        items = tuple(plain_knowledge([value[at] for value in values]) for at in range(least))
        return ("list", least, max(len(value) for value in values), items)
    rows = []
    for name in sorted({name for value in values for name in value}):
        having = [value[name] for value in values if name in value]
        rows.append((name, "always" if len(having) == len(values) else "sometimes", plain_knowledge(having)))
    return ("record", tuple(rows))


def exact(thing):
    """A text that tells 1 from True."""
    if isinstance(thing, tuple):
        return "(" + "".join(exact(part) + ";" for part in thing) + ")"
    return repr(thing) if thing is None else samples.json.dumps(thing, sort_keys=True)


def plain_paths(knowledge):
    """Pairs of a path and the knowledge to which it leads."""
    found = [((), knowledge)]
    parts = []
    if knowledge[0] == "list":
        parts = list(enumerate(knowledge[3]))
    elif knowledge[0] == "record":
        parts = [(name, part) for name, _, part in knowledge[1]]
    elif knowledge[0] == "value" and isinstance(knowledge[1], list):
        parts = [(at, ("value", part)) for at, part in enumerate(knowledge[1])]
    elif knowledge[0] == "value" and isinstance(knowledge[1], dict):
        parts = [(name, ("value", knowledge[1][name])) for name in sorted(knowledge[1])]
    for step, part in parts:
        found += [((step,) + path, more) for path, more in plain_paths(part)]
    return found


def containers_of(thing):
    """All lists and dicts inside a thing."""
    found = [thing] if isinstance(thing, (list, dict)) else []
    if isinstance(thing, (list, tuple, dict)):
        for part in thing.values() if isinstance(thing, dict) else thing:
            found += containers_of(part)
    return found


def random_group(source):
    """Some random values, mostly of the same kind and shape."""
    schema = samples.small_schemas(source, 1, 100)[0]
    values = samples.values_of(schema)
    group = [source.choice(values) for _ in range(source.randint(1, 5))]
    if source.random() < 0.2:
        group.append(samples.random_value(source))
    return copy.deepcopy(group)


class Knowledge(unittest.TestCase):
    def same(self, first, second):
        self.assertEqual(exact(first), exact(second))

    def test_groups_of_every_kind(self):
        source = random.Random(61)
        for _ in range(1500):
            group = random_group(source)
            before = copy.deepcopy(group)
            self.same(knowledge_of(group), plain_knowledge(group))
            self.same(group, before)

    def test_every_order_and_the_same_value_twice(self):
        source = random.Random(62)
        for _ in range(150):
            group = random_group(source)[:4]
            for order in itertools.permutations(group + group[:1]):
                self.same(knowledge_of(list(order)), plain_knowledge(group))

    def test_integers_beside_flags(self):
        for first, second in ((1, True), ([1], [True]), ({"a": 0}, {"a": False}), ([[1, 2]], [[True, 2]])):
            found = knowledge_of([first, second])
            self.same(found, plain_knowledge([first, second]))
            self.assertNotEqual(found[0], "value")
            self.assertFalse(implies(("value", first), ("value", second)))
            self.same(join(("value", first), ("value", second)), found)
            self.same(knowledge_of([first, copy.deepcopy(first)]), ("value", first))

    def test_join_is_the_knowledge_of_both_groups(self):
        source = random.Random(63)
        for _ in range(800):
            groups = [random_group(source) for _ in range(2)]
            if source.random() < 0.6:
                values = samples.values_of(samples.small_schemas(source, 1, 60)[0])
                groups = [[source.choice(values) for _ in range(source.randint(1, 3))] for _ in range(3)]
            told = [knowledge_of(group) for group in groups]
            whole = plain_knowledge([value for group in groups for value in group])
            for order in itertools.permutations(told):
                found = order[0]
                for more in order[1:]:
                    found = join(found, more)
                self.same(found, whole)
            if len(told) == 3:
                self.same(join(told[0], join(told[1], told[2])), whole)
            for part in told:
                self.assertTrue(implies(part, whole))
                self.assertTrue(implies(part, part))
                self.assertIs(implies(whole, part), exact(whole) == exact(part))

    def test_implies_both_ways(self):
        source = random.Random(64)
        for _ in range(800):
            first, second = random_group(source), random_group(source)
            told, other = knowledge_of(first), knowledge_of(second)
            both = exact(plain_knowledge(first + second))
            self.assertIs(implies(told, other), both == exact(other))
            self.assertIs(implies(first=other, second=told), both == exact(told))

    def test_paths_of_every_form(self):
        source = random.Random(65)
        for _ in range(600):
            told = knowledge_of(random_group(source))
            pairs = plain_paths(told)
            self.assertEqual([exact(path) for path in paths_of(told)], [exact(path) for path, _ in pairs])
            known = {exact(path) for path, _ in pairs}
            for path, part in pairs:
                self.same(knowledge_at(told, path), part)
                for thing in (path + ("zz",), path + (True,), path + (8,), path + (-1,), list(path), path + (None,)):
                    if exact(thing) not in known:
                        self.no_path(told, thing)
            for thing in THINGS:
                if not isinstance(thing, tuple) or thing not in [path for path, _ in pairs] or True in thing:
                    self.no_path(told, thing)

    def no_path(self, told, thing):
        with self.assertRaises(NoPath) as caught:
            knowledge_at(told, thing)
        self.assertIs(caught.exception.path, thing)

    def test_no_paths(self):
        deep = ()
        for _ in range(40):
            deep = (deep, deep)
        told = knowledge_of([[1, {"a": 2}], [1, {"a": 3}, 4]])
        for thing in THINGS + [deep, (deep,), (1, deep), (2,), (1, "b"), (1, 0), (0, 0), ("a",), (1, "a", "a"), (-2,)]:
            self.no_path(told, thing)
        self.same(knowledge_at(told, (1, "a")), ("integer", 2, 3))
        self.no_path(("value", [5, 6]), (True,))
        self.no_path(("value", {"a": 1}), (0,))
        self.no_path(("value", "abc"), (0,))
        self.no_path(("mixed", ("flag", "list")), (0,))
        self.no_path(("string", "ab", 2, 3), (0,))
        self.no_path(("list", 1, 2, (("flag",),)), (1,))
        self.no_path(("list", 1, 2, (("flag",),)), (-1,))
        self.no_path(("list", 1, 2, (("flag",),)), [0])

    def test_what_is_returned_can_be_changed(self):
        inner = {"a": [1]}
        values = [[inner, inner, 1], [inner, inner, 2]]
        told = knowledge_of(values)
        other = join(told, ("value", [inner, inner, 5]))
        part = knowledge_at(told, (0,))
        whole = knowledge_at(told, ())
        alone = knowledge_of([[inner, inner]])
        lists = containers_of(told) + containers_of(other) + containers_of(part) + containers_of(whole)
        lists += containers_of(alone)
        self.assertEqual(len({id(thing) for thing in lists + [inner, inner["a"]]}), len(lists) + 2)
        for thing in lists:
            thing.clear()
        self.assertEqual(values, [[{"a": [1]}, {"a": [1]}, 1], [{"a": [1]}, {"a": [1]}, 2]])
        paths = paths_of(("value", [1]))
        paths.clear()
        self.assertEqual(paths_of(knowledge=("value", [1])), [(), (0,)])


if __name__ == "__main__":
    unittest.main()
