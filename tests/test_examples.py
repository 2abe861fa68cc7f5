"""Every example of the interface, in its words."""

import unittest

from soonknown import errors

# Lines of more than 120 characters stand here as they stand in the document.
STAGE_1 = r"""
    >>> from soonknown.values import document
    >>> document({'b': [True, 'xy'], 'a': -3})
    '{"a":-3,"b":[true,"xy"]}'
    >>> from soonknown.values import same
    >>> [same(1, True), same({'a': 1, 'b': 2}, {'b': 2, 'a': 1})]
    [False, True]
    >>> from soonknown.values import is_value
    >>> [is_value({'a': []}), is_value([0] * 9), is_value('aB'), is_value(None)]
    [True, False, False, False]
    >>> from soonknown.values import read_document
    >>> read_document('[1,{"a":false}]')
    [1, {'a': False}]
    >>> read_document('{"b":1,"a":2}')
    raises BadDocument(8)
    >>> read_document('[01]')
    raises BadDocument(2)
    >>> from soonknown.schemas import is_schema
    >>> [is_schema(('list', (), ('flag',), 0, 2)), is_schema(('integer', 3, 1))]
    [True, False]
    >>> is_schema(('either', (('integer', 0, 5), ('integer', 5, 9))))
    False
    >>> from soonknown.schemas import fits
    >>> fits(('record', (('n', ('integer', 0, 3), True), ('x', ('sized', ('flag',), 'n'), True))), {'n': 1, 'x': [True]})
    True
    >>> [fits(('text', 'a', 'bc', 1, 3), 'abc'), fits(('text', 'a', 'bc', 1, 3), 'ba')]
    [True, False]
    >>> from soonknown.schemas import apart
    >>> [apart(('choice', ('a', 'b')), ('text', '', 'bc', 1, 1)), apart(('flag',), ('just', 1))]
    [False, True]
"""
STAGE_2 = r"""
    >>> from soonknown.counting import longest_length, shortest_length
    >>> [shortest_length(('integer', -5, 100)), longest_length(('integer', -5, 100))]
    [1, 3]
    >>> from soonknown.counting import counts
    >>> counts(('integer', 8, 12), 3)
    [0, 2, 3, 0]
    >>> counts(('list', (), ('flag',), 0, 2), 13)
    [0, 0, 1, 0, 0, 0, 1, 1, 0, 0, 0, 1, 2, 1]
    >>> counts(('record', (('a', ('just', 1), False),)), 7)
    [0, 0, 1, 0, 0, 0, 0, 1]
"""
STAGE_3 = r"""
    >>> from soonknown.narrowing import narrow
    >>> narrow(('flag',), 'x')
    []
"""
STAGE_4 = r"""
    >>> from soonknown.completions import offered
    >>> offered(('choice', ('green', 'grey', 'red')), '"gre')
    ['e', 'y']
    >>> from soonknown.completions import forced_text
    >>> forced_text(('choice', ('green', 'grey', 'red')), '"g')
    're'
    >>> from soonknown.completions import has_completion
    >>> has_completion(('integer', 0, 12), '1')
    True
    >>> has_completion(('integer', 0, 12), '13')
    False
    >>> has_completion(('list', (), ('flag',), 1, 2), '[t', limit=5)
    False
    >>> has_completion(('flag',), None)
    False
    >>> offered(('integer', 8, 12), '')
    ['1', '8', '9']
    >>> offered(('record', (('a', ('flag',), False), ('b', ('flag',), True))), '{"')
    ['a', 'b']
    >>> offered(('list', (), ('integer', 0, 9), 0, 3), '[1', limit=5)
    [',', ']']
    >>> offered(('choice', ('green', 'red')), '"x')
    raises BadPrefix(1)
    >>> offered(('choice', ('green', 'red')), '"g', limit=5)
    raises NoRoom(7)
    >>> from soonknown.completions import is_complete
    >>> is_complete(('integer', 0, 12), '1')
    True
    >>> is_complete(('integer', 2, 12), '1')
    False
    >>> is_complete(('list', (), ('flag',), 0, 1), '[]')
    True
    >>> is_complete(('flag',), 5)
    False
    >>> forced_text(('record', (('name', ('text', '', 'ab', 1, 2), True),)), '')
    '{"name":"'
    >>> forced_text(('integer', 0, 12), '')
    ''
    >>> forced_text(('integer', 10, 12), '')
    '1'
    >>> forced_text(('list', (), ('integer', 0, 9), 1, 3), '[7', limit=3)
    ']'
    >>> from soonknown.completions import count
    >>> count(('flag',), '')
    2
    >>> count(('list', (), ('flag',), 0, 2), '')
    7
    >>> count(('text', 'a', 'bc', 1, 3), '"ab')
    3
    >>> count(('record', (('n', ('integer', 0, 2), True), ('x', ('sized', ('flag',), 'n'), True))), '')
    7
    >>> count(('integer', 0, 99), '1', limit=1)
    1
    >>> from soonknown.completions import completion
    >>> completion(('integer', 0, 12), '', 2)
    '10'
    >>> completion(('flag',), '', 1)
    'true'
    >>> completion(('choice', ('green', 'grey', 'red')), '"gre', 1)
    '"grey"'
    >>> completion(('flag',), '', 2)
    raises NoSuchCompletion(2)
    >>> from soonknown.completions import rank
    >>> rank(('integer', 0, 12), '2')
    5
    >>> rank(('list', (), ('flag',), 0, 1), '[true]')
    2
    >>> rank(('integer', 0, 12), '13')
    raises BadDocument(1)
    >>> rank(('integer', 0, 12), '12', limit=1)
    raises BadDocument(2)
    >>> from soonknown.completions import shortest
    >>> shortest(('integer', -5, 12), '')
    '0'
    >>> shortest(('integer', -5, 12), '-')
    '-1'
    >>> shortest(('record', (('a', ('flag',), False),)), '')
    '{}'
    >>> shortest(('list', (), ('choice', ('a', 'bb')), 1, 2), '["b')
    '["bb"]'
    >>> shortest(('flag',), 'f', limit=4)
    raises NoRoom(5)
"""
STAGE_5 = r"""
    >>> from soonknown.knowledge import knowledge_of
    >>> knowledge_of([{'a': 1}, {'a': 3, 'b': True}])
    ('record', (('a', 'always', ('integer', 1, 3)), ('b', 'sometimes', ('value', True))))
    >>> knowledge_of([3])
    ('value', 3)
    >>> knowledge_of([3, 10, 4])
    ('integer', 3, 10)
    >>> knowledge_of(['abc', 'abd', 'ab'])
    ('string', 'ab', 2, 3)
    >>> knowledge_of([1, True])
    ('mixed', ('flag', 'integer'))
    >>> knowledge_of([[1], [1, 2]])
    ('list', 1, 2, (('value', 1),))
    >>> from soonknown.knowledge import join
    >>> join(('value', 1), ('value', 5))
    ('integer', 1, 5)
    >>> join(('value', True), ('flag',))
    ('flag',)
    >>> join(('integer', 1, 3), ('value', 'a'))
    ('mixed', ('integer', 'string'))
    >>> join(('value', {'a': 1}), ('value', {'a': 1, 'b': 2}))
    ('record', (('a', 'always', ('value', 1)), ('b', 'sometimes', ('value', 2))))
    >>> join(('string', 'ab', 2, 3), ('value', 'a'))
    ('string', 'a', 1, 3)
    >>> from soonknown.knowledge import implies
    >>> implies(('value', 2), ('integer', 1, 3))
    True
    >>> implies(('integer', 1, 3), ('value', 2))
    False
    >>> implies(('value', 1), ('value', True))
    False
    >>> implies(('list', 1, 2, (('value', 1),)), ('list', 0, 2, ()))
    True
    >>> from soonknown.knowledge import knowledge_at
    >>> knowledge_at(('record', (('a', 'always', ('integer', 1, 3)),)), ('a',))
    ('integer', 1, 3)
    >>> knowledge_at(('value', {'a': [5, 6]}), ('a', 1))
    ('value', 6)
    >>> knowledge_at(('list', 1, 2, (('flag',),)), (1,))
    raises NoPath((1,))
    >>> knowledge_at(('value', [5, 6]), (True,))
    raises NoPath((True,))
    >>> from soonknown.knowledge import paths_of
    >>> paths_of(('value', 3))
    [()]
    >>> paths_of(('value', {'b': [1], 'a': 0}))
    [(), ('a',), ('b',), ('b', 0)]
    >>> paths_of(('list', 1, 3, (('flag',),)))
    [(), (0,)]
    >>> paths_of(('mixed', ('flag', 'integer')))
    [()]
"""


def outcome(source, names):
    """What an expression returns or raises, as the examples write it."""
    try:
        return repr(eval(source, names))
    except errors.SchemaError as error:
        stored = ", ".join(repr(part) for part in vars(error).values())
        return f"raises {type(error).__name__}({stored})"


class Examples(unittest.TestCase):
    def run_examples(self, text):
        """Run the examples of a stage and return how many results were compared."""
        names = {}
        source = None
        compared = 0
        for line in text.strip().splitlines():
            line = line.strip()
            if line.startswith(">>> "):
                source = line[4:]
                if source.startswith("from ") or source.split("(")[0].count(" = ") == 1:
                    exec(source, names)
            else:
                with self.subTest(source=source):
                    self.assertEqual(outcome(source, names), line)
                compared += 1
        return compared

    def test_stage_1(self):
        self.assertEqual(self.run_examples(STAGE_1), 11)

    def test_stage_2(self):
        self.assertEqual(self.run_examples(STAGE_2), 4)

    def test_stage_3(self):
        self.assertEqual(self.run_examples(STAGE_3), 1)

    def test_stage_4(self):
        self.assertEqual(self.run_examples(STAGE_4), 37)

    def test_stage_5(self):
        self.assertEqual(self.run_examples(STAGE_5), 23)


if __name__ == "__main__":
    unittest.main()
