"""The interface: every function and class in its file, with its arguments as the document writes them."""

import importlib
import inspect
import unittest

FUNCTIONS = {
    "values": ["is_value(thing)", "document(value)", "same(first, second)", "read_document(text)"],
    "schemas": ["is_schema(thing)", "fits(schema, value)", "apart(first, second)"],
    "counting": ["shortest_length(schema)", "longest_length(schema)", "counts(schema, limit)"],
    "narrowing": ["narrow(schema, prefix)"],
    "completions": [
        "has_completion(schema, prefix, *, limit=None)", "offered(schema, prefix, *, limit=None)",
        "is_complete(schema, prefix)", "forced_text(schema, prefix, *, limit=None)",
        "count(schema, prefix, *, limit=None)",
        "completion(schema, prefix, number, *, limit=None)", "rank(schema, text, *, limit=None)",
        "shortest(schema, prefix, *, limit=None)"],
    "knowledge": ["knowledge_of(values)", "join(first, second)", "implies(first, second)",
                  "knowledge_at(knowledge, path)",
                  "paths_of(knowledge)"],
    "known": ["known(schema, prefix, *, limit=None)"],
    "automata": ["automaton(schema, *, bound=2000)", "accepts(states, text)", "outside(first, second, *, bound=2000)",
                 "equal(first, second, *, bound=2000)"],
    "certificates": ["witness(schema, prefix, path, *, limit=None)",
                     "is_witness(schema, prefix, path, pair, *, limit=None)",
                     "check_cover(schema, prefix, pieces)"],
    "texts": ["schema_text(schema)", "parse_schema(text)"],
    "changes": ["least_script(given, made, *, put=1, drop=1, swap=1)"],
    "repairs": [
        "repair_cost(language, text, *, put=1, drop=1, swap=1)",
        "nearest_text(language, text, *, put=1, drop=1, swap=1)",
        "repair(language, text, *, put=1, drop=1, swap=1)",
        "is_cheapest(language, text, value, *, put=1, drop=1, swap=1)",
        "near(language, text, most, *, put=1, drop=1, swap=1)",
        "repair_count(language, text, *, put=1, drop=1, swap=1)",
        "kept_signs(language, text, *, put=1, drop=1, swap=1)", "floors(language, text, *, put=1, drop=1, swap=1)",
        "is_floors(language, text, value, *, put=1, drop=1, swap=1)",
        "farthest(first, second, *, put=1, drop=1, swap=1)"],
}
CLASSES = {
    "reader": {"Reader(schema, *, limit=None)": [
        "feed(text)", "back(number)", "text()", "known()", "offered()", "is_complete()", "value()", "fork()",
        "with_limit(limit)", "settled_at(path)"]},
    "console": {"Console()": ["say(command)"]},
    "changes": {"Script(steps)": ["cost(*, put=1, drop=1, swap=1)", "__call__(text)"]},
    "languages": {"Language": ["states()", "rank_of(text)", "lengths()", "upto(limit)", "within(other)"]},
    "gaps": {"Gap(language, before='', after='')": [
        "put(text)", "put_last(text)", "drop(number)", "drop_last(number)", "undo(number)", "fork()", "fitting()",
        "middles()"]},
    "menders": {"Mender(language, *, put=1, drop=1, swap=1)": [
        "feed(text)", "text()", "nearest()", "repair()", "back(number)", "fork()"]},
}
CLASS_METHODS = {("changes", "Script"): ["kept(text)"],
                 ("languages", "Language"): ["of(schema, *, bound=2000)", "listed(texts)"]}
PROPERTIES = {("gaps", "Gap"): ["before", "after", "first", "last", "forced", "forced_last", "closed"],
              ("menders", "Mender"): ["least", "price", "welcome"]}


class Interface(unittest.TestCase):
    def own(self, file, name):
        """What a file defines under a name, not what it imports."""
        found = getattr(importlib.import_module("soonknown." + file), name)
        self.assertEqual(found.__module__, "soonknown." + file, name)
        return found

    def arguments(self, thing):
        """The arguments as the document writes them, without the object itself."""
        text = str(inspect.signature(thing))
        return text.replace("(self, /)", "()").replace("(self, ", "(").replace("(self)", "()")

    def test_functions(self):
        for file, rows in FUNCTIONS.items():
            for row in rows:
                name = row.split("(")[0]
                self.assertEqual(name + self.arguments(self.own(file, name)), row)

    def test_classes(self):
        for file, classes in CLASSES.items():
            for row, methods in classes.items():
                own = self.own(file, row.split("(")[0])
                if "(" in row:
                    self.assertEqual(own.__name__ + self.arguments(own), row)
                for method in methods:
                    name = method.split("(")[0]
                    self.assertEqual(name + self.arguments(vars(own)[name]), method)

    def test_class_methods_and_properties(self):
        for (file, name), rows in CLASS_METHODS.items():
            own = self.own(file, name)
            for row in rows:
                self.assertIsInstance(vars(own)[row.split("(")[0]], classmethod)
                self.assertEqual(row.split("(")[0] + self.arguments(getattr(own, row.split("(")[0])), row)
        for (file, name), rows in PROPERTIES.items():
            for row in rows:
                self.assertIsInstance(vars(self.own(file, name))[row], property)


if __name__ == "__main__":
    unittest.main()
