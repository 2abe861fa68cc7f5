"""Every example of the interface, in its words."""

import unittest

from soonknown import errors

# Lines of more than 120 characters stand here as they stand in the document.
STAGE_1 = r"""
    >>> from soonknown.values import document
    >>> document({'b': [True, 'xy'], 'a': -3})
    '{"a":-3,"b":[true,"xy"]}'
    >>> from soonknown.values import same
    >>> [same(1, True), same({'a': 1, 'b': 2}, {'b': 2, 'a': 1})]
    [False, True]
    >>> from soonknown.values import is_value
    >>> [is_value({'a': []}), is_value([0] * 9), is_value('aB'), is_value(None)]
    [True, False, False, False]
    >>> from soonknown.values import read_document
    >>> read_document('[1,{"a":false}]')
    [1, {'a': False}]
    >>> read_document('{"b":1,"a":2}')
    raises BadDocument(8)
    >>> read_document('[01]')
    raises BadDocument(2)
    >>> from soonknown.schemas import is_schema
    >>> [is_schema(('list', (), ('flag',), 0, 2)), is_schema(('integer', 3, 1))]
    [True, False]
    >>> is_schema(('either', (('integer', 0, 5), ('integer', 5, 9))))
    False
    >>> from soonknown.schemas import fits
    >>> fits(('record', (('n', ('integer', 0, 3), True), ('x', ('sized', ('flag',), 'n'), True))), {'n': 1, 'x': [True]})
    True
    >>> [fits(('text', 'a', 'bc', 1, 3), 'abc'), fits(('text', 'a', 'bc', 1, 3), 'ba')]
    [True, False]
    >>> from soonknown.schemas import apart
    >>> [apart(('choice', ('a', 'b')), ('text', '', 'bc', 1, 1)), apart(('flag',), ('just', 1))]
    [False, True]
"""


def outcome(source, names):
    """What an expression returns or raises, as the examples write it."""
    try:
        return repr(eval(source, names))
    except errors.SchemaError as error:
        stored = ", ".join(repr(part) for part in vars(error).values())
        return f"raises {type(error).__name__}({stored})"


class Examples(unittest.TestCase):
    def run_examples(self, text):
        """Run the examples of a stage and return how many results were compared."""
        names = {}
        source = None
        compared = 0
        for line in text.strip().splitlines():
            line = line.strip()
            if line.startswith(">>> "):
                source = line[4:]
                if source.startswith("from ") or source.split("(")[0].count(" = ") == 1:
                    exec(source, names)
            else:
                with self.subTest(source=source):
                    self.assertEqual(outcome(source, names), line)
                compared += 1
        return compared

    def test_stage_1(self):
        self.assertEqual(self.run_examples(STAGE_1), 11)


if __name__ == "__main__":
    unittest.main()
