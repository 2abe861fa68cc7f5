"""Every example of the interface, in its words."""

import unittest

from soonknown import errors
from soonknown.reader import Reader

# Lines of more than 120 characters stand here as they stand in the document.
STAGE_1 = r"""
    >>> from soonknown.values import document
    >>> document({'b': [True, 'xy'], 'a': -3})
    '{"a":-3,"b":[true,"xy"]}'
    >>> from soonknown.values import same
    >>> [same(1, True), same({'a': 1, 'b': 2}, {'b': 2, 'a': 1})]
    [False, True]
    >>> from soonknown.values import is_value
    >>> [is_value({'a': []}), is_value([0] * 9), is_value('aB'), is_value(None)]
    [True, False, False, False]
    >>> from soonknown.values import read_document
    >>> read_document('[1,{"a":false}]')
    [1, {'a': False}]
    >>> read_document('{"b":1,"a":2}')
    raises BadDocument(8)
    >>> read_document('[01]')
    raises BadDocument(2)
    >>> from soonknown.schemas import is_schema
    >>> [is_schema(('list', (), ('flag',), 0, 2)), is_schema(('integer', 3, 1))]
    [True, False]
    >>> is_schema(('either', (('integer', 0, 5), ('integer', 5, 9))))
    False
    >>> from soonknown.schemas import fits
    >>> fits(('record', (('n', ('integer', 0, 3), True), ('x', ('sized', ('flag',), 'n'), True))), {'n': 1, 'x': [True]})
    True
    >>> [fits(('text', 'a', 'bc', 1, 3), 'abc'), fits(('text', 'a', 'bc', 1, 3), 'ba')]
    [True, False]
    >>> from soonknown.schemas import apart
    >>> [apart(('choice', ('a', 'b')), ('text', '', 'bc', 1, 1)), apart(('flag',), ('just', 1))]
    [False, True]
"""
STAGE_2 = r"""
    >>> from soonknown.counting import longest_length, shortest_length
    >>> [shortest_length(('integer', -5, 100)), longest_length(('integer', -5, 100))]
    [1, 3]
    >>> from soonknown.counting import counts
    >>> counts(('integer', 8, 12), 3)
    [0, 2, 3, 0]
    >>> counts(('list', (), ('flag',), 0, 2), 13)
    [0, 0, 1, 0, 0, 0, 1, 1, 0, 0, 0, 1, 2, 1]
    >>> counts(('record', (('a', ('just', 1), False),)), 7)
    [0, 0, 1, 0, 0, 0, 0, 1]
"""
STAGE_3 = r"""
    >>> from soonknown.narrowing import narrow
    >>> narrow(('flag',), 'x')
    []
"""
STAGE_4 = r"""
    >>> from soonknown.completions import offered
    >>> offered(('choice', ('green', 'grey', 'red')), '"gre')
    ['e', 'y']
    >>> from soonknown.completions import forced_text
    >>> forced_text(('choice', ('green', 'grey', 'red')), '"g')
    're'
    >>> from soonknown.completions import has_completion
    >>> has_completion(('integer', 0, 12), '1')
    True
    >>> has_completion(('integer', 0, 12), '13')
    False
    >>> has_completion(('list', (), ('flag',), 1, 2), '[t', limit=5)
    False
    >>> has_completion(('flag',), None)
    False
    >>> offered(('integer', 8, 12), '')
    ['1', '8', '9']
    >>> offered(('record', (('a', ('flag',), False), ('b', ('flag',), True))), '{"')
    ['a', 'b']
    >>> offered(('list', (), ('integer', 0, 9), 0, 3), '[1', limit=5)
    [',', ']']
    >>> offered(('choice', ('green', 'red')), '"x')
    raises BadPrefix(1)
    >>> offered(('choice', ('green', 'red')), '"g', limit=5)
    raises NoRoom(7)
    >>> from soonknown.completions import is_complete
    >>> is_complete(('integer', 0, 12), '1')
    True
    >>> is_complete(('integer', 2, 12), '1')
    False
    >>> is_complete(('list', (), ('flag',), 0, 1), '[]')
    True
    >>> is_complete(('flag',), 5)
    False
    >>> forced_text(('record', (('name', ('text', '', 'ab', 1, 2), True),)), '')
    '{"name":"'
    >>> forced_text(('integer', 0, 12), '')
    ''
    >>> forced_text(('integer', 10, 12), '')
    '1'
    >>> forced_text(('list', (), ('integer', 0, 9), 1, 3), '[7', limit=3)
    ']'
    >>> from soonknown.completions import count
    >>> count(('flag',), '')
    2
    >>> count(('list', (), ('flag',), 0, 2), '')
    7
    >>> count(('text', 'a', 'bc', 1, 3), '"ab')
    3
    >>> count(('record', (('n', ('integer', 0, 2), True), ('x', ('sized', ('flag',), 'n'), True))), '')
    7
    >>> count(('integer', 0, 99), '1', limit=1)
    1
    >>> from soonknown.completions import completion
    >>> completion(('integer', 0, 12), '', 2)
    '10'
    >>> completion(('flag',), '', 1)
    'true'
    >>> completion(('choice', ('green', 'grey', 'red')), '"gre', 1)
    '"grey"'
    >>> completion(('flag',), '', 2)
    raises NoSuchCompletion(2)
    >>> from soonknown.completions import rank
    >>> rank(('integer', 0, 12), '2')
    5
    >>> rank(('list', (), ('flag',), 0, 1), '[true]')
    2
    >>> rank(('integer', 0, 12), '13')
    raises BadDocument(1)
    >>> rank(('integer', 0, 12), '12', limit=1)
    raises BadDocument(2)
    >>> from soonknown.completions import shortest
    >>> shortest(('integer', -5, 12), '')
    '0'
    >>> shortest(('integer', -5, 12), '-')
    '-1'
    >>> shortest(('record', (('a', ('flag',), False),)), '')
    '{}'
    >>> shortest(('list', (), ('choice', ('a', 'bb')), 1, 2), '["b')
    '["bb"]'
    >>> shortest(('flag',), 'f', limit=4)
    raises NoRoom(5)
"""
STAGE_5 = r"""
    >>> from soonknown.knowledge import knowledge_of
    >>> knowledge_of([{'a': 1}, {'a': 3, 'b': True}])
    ('record', (('a', 'always', ('integer', 1, 3)), ('b', 'sometimes', ('value', True))))
    >>> knowledge_of([3])
    ('value', 3)
    >>> knowledge_of([3, 10, 4])
    ('integer', 3, 10)
    >>> knowledge_of(['abc', 'abd', 'ab'])
    ('string', 'ab', 2, 3)
    >>> knowledge_of([1, True])
    ('mixed', ('flag', 'integer'))
    >>> knowledge_of([[1], [1, 2]])
    ('list', 1, 2, (('value', 1),))
    >>> from soonknown.knowledge import join
    >>> join(('value', 1), ('value', 5))
    ('integer', 1, 5)
    >>> join(('value', True), ('flag',))
    ('flag',)
    >>> join(('integer', 1, 3), ('value', 'a'))
    ('mixed', ('integer', 'string'))
    >>> join(('value', {'a': 1}), ('value', {'a': 1, 'b': 2}))
    ('record', (('a', 'always', ('value', 1)), ('b', 'sometimes', ('value', 2))))
    >>> join(('string', 'ab', 2, 3), ('value', 'a'))
    ('string', 'a', 1, 3)
    >>> from soonknown.knowledge import implies
    >>> implies(('value', 2), ('integer', 1, 3))
    True
    >>> implies(('integer', 1, 3), ('value', 2))
    False
    >>> implies(('value', 1), ('value', True))
    False
    >>> implies(('list', 1, 2, (('value', 1),)), ('list', 0, 2, ()))
    True
    >>> from soonknown.knowledge import knowledge_at
    >>> knowledge_at(('record', (('a', 'always', ('integer', 1, 3)),)), ('a',))
    ('integer', 1, 3)
    >>> knowledge_at(('value', {'a': [5, 6]}), ('a', 1))
    ('value', 6)
    >>> knowledge_at(('list', 1, 2, (('flag',),)), (1,))
    raises NoPath((1,))
    >>> knowledge_at(('value', [5, 6]), (True,))
    raises NoPath((True,))
    >>> from soonknown.knowledge import paths_of
    >>> paths_of(('value', 3))
    [()]
    >>> paths_of(('value', {'b': [1], 'a': 0}))
    [(), ('a',), ('b',), ('b', 0)]
    >>> paths_of(('list', 1, 3, (('flag',),)))
    [(), (0,)]
    >>> paths_of(('mixed', ('flag', 'integer')))
    [()]
"""
STAGE_6 = r"""
    >>> from soonknown.known import known
    >>> known(('list', (), ('integer', 0, 12), 0, 3), '[1', limit=5)
    ('list', 1, 2, (('integer', 1, 12),))
    >>> schema = ('record', (('a', ('integer', 0, 8), True), ('b', ('sized', ('flag',), 'a'), True), ('c', ('repeat', 'a'), False)))
    >>> known(schema, '', limit=30)
    ('record', (('a', 'always', ('integer', 0, 3)), ('b', 'always', ('list', 0, 3, ())), ('c', 'sometimes', ('integer', 0, 2))))
    >>> schema = ('record', (('a', ('integer', 0, 8), True), ('b', ('sized', ('flag',), 'a'), True), ('c', ('repeat', 'a'), False)))
    >>> known(schema, '{"a":2,"b":[false,f', limit=30)
    ('value', {'a': 2, 'b': [False, False]})
    >>> known(('integer', 5, 25), '1')
    ('integer', 10, 19)
    >>> schema = ('record', (('n', ('integer', 0, 3), True), ('x', ('sized', ('integer', 0, 9), 'n'), True)))
    >>> known(schema, '{"n":2')
    ('record', (('n', 'always', ('value', 2)), ('x', 'always', ('list', 2, 2, (('integer', 0, 9), ('integer', 0, 9))))))
    >>> schema = ('record', (('n', ('integer', 0, 3), True), ('x', ('sized', ('integer', 0, 9), 'n'), True)))
    >>> known(schema, '', limit=14)
    ('value', {'n': 0, 'x': []})
    >>> known(('text', '', 'a', 1, 3), '')
    ('string', 'a', 1, 3)
    >>> known(('either', (('integer', 0, 9), ('flag',))), '')
    ('mixed', ('flag', 'integer'))
    >>> known(('either', (('integer', 0, 9), ('flag',))), '', limit=1)
    ('integer', 0, 9)
    >>> known(('flag',), 'x')
    raises BadPrefix(0)
"""
STAGE_7 = r"""
    >>> from soonknown.reader import Reader
    >>> reader = Reader(('record', (('a', ('integer', 0, 3), False), ('b', ('flag',), True))))
    >>> reader.feed('{"b')
    [((), ('record', (('b', 'always', ('flag',)),))), (('a',), None)]
    >>> reader = Reader(('choice', ('green', 'grey', 'red')))
    >>> reader.feed('"g')
    [((), ('string', 'gre', 4, 5))]
    >>> reader = Reader(('choice', ('green', 'grey', 'red')))
    >>> events = reader.feed('"gree')
    >>> [events[-1], reader.settled_at(()), reader.value()]
    [((), ('value', 'green')), 5, None]
    >>> Reader(('integer', 0, 25)).feed('31')
    raises NotOffered(1)
    >>> Reader(('flag',), limit=3)
    raises NoRoom(4)
    >>> reader = Reader(('flag',))
    >>> events = reader.feed('tr')
    >>> other = reader.fork()
    >>> nothing = other.back(1)
    >>> [reader.text(), other.text(), reader == other, len(other)]
    ['tr', 't', False, 1]
    >>> Reader(('flag',)).back(2)
    raises TooFar(2)
    >>> Reader(('list', (), ('integer', 0, 9), 0, 3)).with_limit(4).known()
    ('list', 0, 1, ())
"""
STAGE_8 = r"""
    >>> from soonknown.automata import automaton
    >>> automaton(('integer', 8, 11))
    [(False, (('1', 1), ('8', 2), ('9', 2))), (False, (('0', 2), ('1', 2))), (True, ())]
    >>> automaton(('integer', 0, 99), bound=2)
    raises TooManyStates(2)
    >>> from soonknown.automata import accepts, automaton
    >>> [accepts(automaton(('integer', 8, 11)), '10'), accepts(automaton(('integer', 8, 11)), '1')]
    [True, False]
    >>> from soonknown.automata import outside
    >>> [outside(('integer', 0, 12), ('integer', 0, 9)), outside(('integer', 0, 9), ('integer', 0, 12))]
    ['10', None]
    >>> from soonknown.automata import equal
    >>> equal(('flag',), ('either', (('just', False), ('just', True))))
    True
"""
STAGE_9 = r"""
    >>> from soonknown.certificates import is_witness
    >>> is_witness(('integer', 0, 9), '', (), (3, 4))
    True
    >>> is_witness(('integer', 0, 9), '', (), (3, 3))
    False
    >>> is_witness(('list', (), ('flag',), 0, 1), '', (0,), ([], [True]))
    True
    >>> is_witness(('list', (), ('flag',), 0, 1), '', (0,), ([], [True]), limit=5)
    False
    >>> from soonknown.certificates import witness
    >>> witness(('just', 5), '', ())
    None
    >>> from soonknown.certificates import is_witness, witness
    >>> pair = witness(('integer', 0, 9), '', ())
    >>> is_witness(('integer', 0, 9), '', (), pair)
    True
    >>> schema = ('record', (('a', ('integer', 0, 3), True), ('b', ('repeat', 'a'), True)))
    >>> witness(schema, '{"a":2', ('b',))
    None
    >>> from soonknown.certificates import check_cover
    >>> check_cover(('integer', 0, 25), '1', [('just', 1), ('integer', 10, 19)])
    True
    >>> check_cover(('integer', 0, 25), '1', [('integer', 10, 19)])
    False
    >>> check_cover(('flag',), '', [('just', True), ('just', False)])
    True
    >>> check_cover(('integer', 0, 9), 'x', [])
    True
"""
STAGE_10 = r"""
    >>> from soonknown.texts import schema_text
    >>> schema_text(('record', (('a', ('integer', 0, 3), True), ('b', ('repeat', 'a'), False))))
    '{a: int 0..3, b?: same a}'
    >>> from soonknown.texts import parse_schema
    >>> parse_schema('[flag, *one of "a" "b"; 1..2]')
    ('list', (('flag',),), ('choice', ('a', 'b')), 1, 2)
    >>> parse_schema('int 5..3')
    raises BadSchema(-1)
    >>> parse_schema('[*flag; 0.2]')
    raises BadSchema(10)
    >>> from soonknown.console import Console
    >>> console = Console()
    >>> first = console.say('schema [*int 0..12; 0..2]')
    >>> second = console.say('feed [1')
    >>> [first, second, console.say('next'), console.say('count'), console.say('known .0')]
    ['ok', '. list 1..2\n.0 int 1..12', ',012]', '56', 'int 1..12']
    >>> Console().say('limit 401')
    raises BadCommand('limit 401')
"""
STAGE_11 = r"""
    >>> from soonknown.changes import Script
    >>> script = Script([("keep", "a"), ("drop", "b"), ("swap", "c", "d"), ("put", "e")])
    >>> [script.given, script.made, script("abc"), len(script), script.cost(put=5)]
    ['abc', 'ade', 'ade', 3, 7]
    >>> (~script).steps
    (('keep', 'a'), ('put', 'b'), ('swap', 'd', 'c'), ('drop', 'e'))
    >>> (script + Script([("keep", "a"), ("swap", "d", "c"), ("drop", "e"), ("put", "f")])).steps
    (('keep', 'a'), ('drop', 'b'), ('keep', 'c'), ('put', 'f'))
    >>> (script + ~script).steps
    (('keep', 'a'), ('drop', 'b'), ('put', 'b'), ('keep', 'c'))
"""
STAGE_12 = r"""
    >>> from soonknown.languages import Language
    >>> language = Language.listed(["b", "ab", "b", ""])
    >>> [language.count, language[0], language[1], language.rank_of("b"), language.lengths(), "a" in language]
    [3, '', 'ab', 2, [1, 1, 1], False]
    >>> numbers = Language.of(("integer", 8, 11))
    >>> [numbers.states() == Language.listed(["8", "9", "10", "11"]).states(), (numbers - language.upto(1)).count]
    [True, 4]
    >>> [(numbers & language).states(), bool(numbers & language), (numbers ^ numbers.upto(1))[0]]
    [[(False, ())], False, '10']
"""
STAGE_13 = r"""
    >>> from soonknown.gaps import Gap
    >>> from soonknown.languages import Language
    >>> gap = Gap(Language.listed(["abcb", "acb", "ab", "b"]), after="b")
    >>> [gap.first, gap.last, gap.forced, gap.forced_last, gap.closed, gap.fitting().count]
    [['a'], ['a', 'c'], '', '', True, 4]
    >>> gap.put("a")
    >>> [gap.first, gap.last, gap.closed, gap.forced_last]
    [['b', 'c'], ['c'], True, '']
    >>> gap.put_last("bc")
    >>> [gap.before, gap.after, gap.fitting().count, gap.middles()[0], gap.closed]
    ['a', 'bcb', 1, '', True]
    >>> gap.put("b")
    raises NotOffered(1)
"""
STAGE_14 = r"""
    >>> from soonknown.languages import Language
    >>> from soonknown.changes import Script
    >>> from soonknown.repairs import farthest, floors, is_cheapest, is_floors, kept_signs, near, nearest_text, repair, repair_cost, repair_count
    >>> language = Language.listed(["a", "abc", "bc"])
    >>> [repair_cost(language, "ac"), nearest_text(language, "ac"), repair_count(language, "ac"), kept_signs(language, "ac")]
    [1, 'a', 3, ['sometimes', 'sometimes']]
    >>> [repair(language, "ac").steps, near(language, "ac", 1).count, near(language, "ac", 0).count]
    [(('keep', 'a'), ('drop', 'c')), 3, 0]
    >>> one = Language.listed(["b"])
    >>> [floors(one, "a"), is_floors(one, "a", ([[0, 0], [0, 0]], [[0, 0], [0, 0]]))]
    [([[0, 1], [1, 1]], [[1, 1], [1, 0]]), True]
    >>> [farthest(language, one), is_cheapest(one, "a", Script([("swap", "a", "b")])), is_cheapest(one, "a", ())]
    [(2, 'abc'), True, False]
"""
STAGE_15 = r"""
    >>> from soonknown.languages import Language
    >>> from soonknown.menders import Mender
    >>> mender = Mender(Language.of(("list", (), ("flag",), 1, 2)), put=2)
    >>> [mender.least, mender.price, mender.nearest(), mender.welcome]
    [0, 12, '[true]', ['[']]
    >>> [mender.feed("[tru ]"), mender.price, mender.nearest(), mender.repair().made]
    [[0, 0, 0, 0, 1, 1], 1, '[true]', '[true]']
    >>> told = mender.feed("]")
    >>> [mender.least, mender.price, len(mender)]
    [2, 2, 7]
"""


def outcome(source, names):
    """What an expression returns or raises, as the examples write it."""
    try:
        return repr(eval(source, names))
    except errors.SchemaError as error:
        stored = ", ".join(repr(part) for part in vars(error).values())
        return f"raises {type(error).__name__}({stored})"


class Examples(unittest.TestCase):
    def run_examples(self, text):
        """Run the examples of a stage and return how many results were compared."""
        names = {}
        compared = 0
        rows = [line.strip() for line in text.strip().splitlines()]
        for at, line in enumerate(rows):
            source = line.removeprefix(">>> ")
            wanted = rows[at + 1] if rows[at + 1:] and not rows[at + 1].startswith(">>> ") else None
            if line == source:
                continue
            if wanted is None:
                exec(source, names)
            else:
                with self.subTest(source=source):
                    self.assertEqual(outcome(source, names), wanted)
                compared += 1
        return compared

    def test_stage_1(self):
        self.assertEqual(self.run_examples(STAGE_1), 11)

    def test_stage_2(self):
        self.assertEqual(self.run_examples(STAGE_2), 4)

    def test_stage_3(self):
        self.assertEqual(self.run_examples(STAGE_3), 1)

    def test_stage_4(self):
        self.assertEqual(self.run_examples(STAGE_4), 37)

    def test_stage_5(self):
        self.assertEqual(self.run_examples(STAGE_5), 23)

    def test_stage_6(self):
        self.assertEqual(self.run_examples(STAGE_6), 10)

    def test_stage_7(self):
        self.assertEqual(self.run_examples(STAGE_7), 8)

    def test_stage_8(self):
        self.assertEqual(self.run_examples(STAGE_8), 5)

    def test_stage_9(self):
        self.assertEqual(self.run_examples(STAGE_9), 11)

    def test_stage_10(self):
        self.assertEqual(self.run_examples(STAGE_10), 6)

    def test_stage_11(self):
        self.assertEqual(self.run_examples(STAGE_11), 4)

    def test_stage_12(self):
        self.assertEqual(self.run_examples(STAGE_12), 3)

    def test_stage_13(self):
        self.assertEqual(self.run_examples(STAGE_13), 4)

    def test_stage_14(self):
        self.assertEqual(self.run_examples(STAGE_14), 4)

    def test_stage_15(self):
        self.assertEqual(self.run_examples(STAGE_15), 3)

    def test_the_example_of_the_overview(self):
        size = ("integer", 0, 8)
        schema = ("record", (("a", size, True), ("b", ("sized", ("flag",), "a"), True), ("c", ("repeat", "a"), False)))
        reader = Reader(schema, limit=30)
        self.assertEqual(reader.known(), ("record", (
            ("a", "always", ("integer", 0, 3)), ("b", "always", ("list", 0, 3, ())),
            ("c", "sometimes", ("integer", 0, 2)))))
        self.assertEqual(reader.feed('{"a":2,"b":[')[-1][0], ("c",))
        before = reader.known()
        self.assertEqual(before[1][2], ("c", "sometimes", ("value", 2)))
        # A letter inside b settles that c cannot come: if both items are false, there is no room for it.
        self.assertEqual([event for event in reader.feed("false,") if event[0] == ("c",)], [])
        self.assertEqual([event for event in reader.feed("f") if event[0] == ("c",)], [(("c",), None)])
        self.assertEqual(reader.known(), ("value", {"a": 2, "b": [False, False]}))
        self.assertEqual(reader.offered(), ["a"])


if __name__ == "__main__":
    unittest.main()
