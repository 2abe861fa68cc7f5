"""Those rules of the language that can be checked line by line, over all files of the package."""

import ast
import builtins
import pathlib
import re
import unittest

PACKAGE = pathlib.Path(__file__).resolve().parent.parent / "soonknown"
FILES = sorted(PACKAGE.rglob("*.py"))

BUILTINS = set("""len range enumerate zip min max sum abs sorted reversed int str bool list tuple dict set
    isinstance ord repr any all divmod iter next map ValueError TypeError KeyError IndexError LookupError Exception
    StopIteration RuntimeError NotImplemented super property staticmethod classmethod getattr hasattr""".split())
METHODS = set("""append clear copy count endswith extend find get index insert isalnum isalpha isdigit islower isspace
    isupper items join keys ljust lower lstrip partition pop remove replace reverse rfind rjust rpartition rsplit rstrip
    setdefault split splitlines startswith strip update upper values zfill bit_length add discard appendleft popleft
    removeprefix removesuffix""".split())
LIBRARY = {"heapq", "math", "itertools", "collections", "__future__"}
BARRED_WORDS = re.compile(r"\b(type|typing|enum|Enum|Flag|Generic|Protocol|ABC|namedtuple|NamedTuple|TypedDict)\b"
                          r"|dataclass|overload|contextmanager")
BARRED_NAMES = set("""register mro elements open input law version_info with_traceback add_note compile copyright
    credits dir eval exec exit gc globals help id locals os quit type vars sys""".split())
BARRED_NODES = (ast.AsyncFunctionDef, ast.AsyncFor, ast.AsyncWith, ast.Await)
DECORATORS = {"property", "staticmethod", "classmethod", "setter"}
BARRED_BEGINNINGS = ("_wall", "_pe_", "_dcw_", "_enum_", "_cm_", "_twin_re_", "_lay_", "_law_", "_stub_", "_sre",
                     "_WallAttr")
BARRED_WHOLES = re.compile(r"(_cold|_tuplegetter|_outside|_record|_written_out|_member_names)[0-9_]*$|.*[^ -~]")
STRING_WORDS = re.compile(r"\b(type|typing|typing_extensions|enum|Enum|IntEnum|StrEnum|Flag|IntFlag|Generic|Protocol"
                          r"|ABC|ABCMeta|namedtuple|NamedTuple|TypedDict|TYPE_CHECKING|abstractmethod)\b"
                          r"|dataclass|overload|contextmanager|^__.*__$|%")
# What runs as an operator or a property, or is held to the same.
PURE = {"__eq__", "__len__", "__bool__", "__contains__", "__getitem__", "__invert__", "__and__", "__or__", "__xor__",
        "__sub__",
        "__add__"}
CHANGING = {"append", "clear", "extend", "insert", "pop", "remove", "reverse", "setdefault", "update", "add",
            "discard", "sort"}
MAKERS = {"list", "dict", "set", "sorted"}


def own_methods():
    return {node.name for path in FILES for node in ast.walk(ast.parse(path.read_text()))
            if isinstance(node, ast.FunctionDef)}


def bound_names(tree):
    """The names that a file binds anywhere, apart from methods."""
    bound = {node.name for node in tree.body if isinstance(node, (ast.FunctionDef, ast.ClassDef))}
    for node in ast.walk(tree):
        if isinstance(node, ast.Name) and isinstance(node.ctx, ast.Store):
            bound.add(node.id)
        elif isinstance(node, ast.arg):
            bound.add(node.arg)
        elif isinstance(node, ast.ExceptHandler) and node.name:
            bound.add(node.name)
        elif isinstance(node, ast.ImportFrom):
            bound.update(alias.name for alias in node.names)
    return bound


class Language(unittest.TestCase):
    def each_file(self):
        sources = [(path, path.read_text(encoding="utf-8")) for path in FILES]
        return [(path, source, ast.parse(source)) for path, source in sources]

    def test_the_folder_holds_python_files_only(self):
        found = [path for path in PACKAGE.rglob("*") if "__pycache__" not in path.parts and path.is_file()]
        self.assertEqual(sorted(found), FILES)
        self.assertIn(PACKAGE / "__init__.py", FILES)

    def test_size_and_characters(self):
        for _, source, tree in self.each_file():
            self.assertIsNone(re.search("[^ -~\n]", source))
            lines = source.split("\n")
            self.assertLess(len(lines), 400)
            self.assertLessEqual(max(len(line) for line in lines), 120)
            for node in ast.walk(tree):
                if isinstance(node, ast.FunctionDef):
                    self.assertLessEqual(node.end_lineno - node.lineno, 39, node.name)
                    for decorator in node.decorator_list:
                        self.assertIn(getattr(decorator, "id", getattr(decorator, "attr", "")), DECORATORS)

    def test_module_level(self):
        for _, _, tree in self.each_file():
            names = []
            for at, node in enumerate(tree.body):
                if isinstance(node, ast.Expr):
                    self.assertTrue(at == 0 and isinstance(node.value, ast.Constant))
                elif isinstance(node, ast.ImportFrom):
                    self.assertEqual(node.level, 0)
                    self.assertTrue(node.module.startswith("soonknown.") or node.module in LIBRARY, node.module)
                    names += [alias.name for alias in node.names]
                elif isinstance(node, ast.Assign):
                    names.append(node.targets[0].id)
                else:
                    self.assertIsInstance(node, (ast.FunctionDef, ast.ClassDef))
                    names.append(node.name)
            self.assertEqual(len(names), len(set(names)))

    def test_names_and_calls(self):
        methods = METHODS | own_methods()
        for path, _, tree in self.each_file():
            bound = bound_names(tree)
            barred = {name for name in dir(builtins) if not name.startswith("__")} | BARRED_NAMES
            self.assertEqual(bound & barred, set(), path.name)
            for node in ast.walk(tree):
                self.assertNotIsInstance(node, BARRED_NODES)
                if isinstance(node, ast.Name):
                    self.assertIn(node.id, bound | BUILTINS)
                if isinstance(node, ast.Call) and isinstance(node.func, ast.Attribute):
                    self.assertIn(node.func.attr, methods)
                if isinstance(node, ast.Constant):
                    self.assertNotIsInstance(node.value, (float, complex))
                if isinstance(node, ast.BinOp):
                    self.assertNotIsInstance(node.op, (ast.Div, ast.MatMult))
                if isinstance(node, ast.Constant) and isinstance(node.value, str):
                    self.assertNotIn("%", node.value)

    def test_barred_words(self):
        for _, _, tree in self.each_file():
            for node in ast.walk(tree):
                word = getattr(node, "id", getattr(node, "attr", getattr(node, "arg", getattr(node, "name", ""))))
                if isinstance(word, str):
                    self.assertIsNone(BARRED_WORDS.search(word))

    def test_no_variable_has_the_name_of_a_class_or_an_import(self):
        for path, _, tree in self.each_file():
            taken = {node.name for node in ast.walk(tree) if isinstance(node, ast.ClassDef)}
            taken |= {alias.name for node in tree.body if isinstance(node, ast.ImportFrom) for alias in node.names}
            for node in ast.walk(tree):
                if isinstance(node, ast.Name) and isinstance(node.ctx, ast.Store):
                    self.assertNotIn(node.id, taken, path.name)
                if isinstance(node, ast.arg):
                    self.assertNotIn(node.arg, taken, path.name)
                if isinstance(node, ast.ExceptHandler):
                    self.assertNotIn(node.name, taken, path.name)

    def test_methods_and_attributes(self):
        for path, _, tree in self.each_file():
            for own in ast.walk(tree):
                if isinstance(own, ast.ClassDef):
                    methods = {node.name for node in own.body if isinstance(node, ast.FunctionDef)}
                    stored = {node.attr for node in ast.walk(own)
                              if isinstance(node, ast.Attribute) and isinstance(node.ctx, ast.Store)}
                    self.assertEqual(methods & stored, set(), path.name)
                    allowed = {"count", "index", "title", "find", "get", "join", "lower", "upper", "split", "strip",
                               "copy", "add"}
                    self.assertEqual(stored & METHODS - allowed, set(), path.name)

    def test_names_with_an_underscore(self):
        for path, source, tree in self.each_file():
            for node in ast.walk(tree):
                for word in (getattr(node, "id", None), getattr(node, "attr", None), getattr(node, "arg", None),
                             getattr(node, "name", None)):
                    if isinstance(word, str):
                        self.assertFalse(word.startswith(BARRED_BEGINNINGS) or BARRED_WHOLES.match(word),
                                         (path.name, word))
                        self.assertTrue(re.match("__[a-z]+__$|_?[A-Za-z]|_$", word), (path.name, word))
            for word in ("(type)", "Meta", "metaclass="):
                self.assertNotIn(word, source)

    def test_words_in_strings(self):
        for path, _, tree in self.each_file():
            docstrings = {id(node.body[0].value) for node in ast.walk(tree)
                          if isinstance(node, (ast.Module, ast.ClassDef, ast.FunctionDef))
                          and isinstance(node.body[0], ast.Expr)}
            for node in ast.walk(tree):
                if isinstance(node, ast.Constant) and isinstance(node.value, str) and id(node) not in docstrings:
                    self.assertIsNone(STRING_WORDS.search(node.value), (path.name, node.value))

    def each_class(self):
        return [(path, node) for path, _, tree in self.each_file() for node in tree.body
                if isinstance(node, ast.ClassDef)]

    def test_names_of_methods_over_the_whole_package(self):
        sorts = {"plain": set(), "property": set(), "classmethod": set(), "stored": set()}
        for _, own in self.each_class():
            for node in ast.walk(own):
                if isinstance(node, ast.FunctionDef):
                    sort = node.decorator_list[0].id if node.decorator_list else "plain"
                    sorts[sort].add(node.name)
                elif isinstance(node, ast.Attribute) and isinstance(node.ctx, ast.Store):
                    sorts["stored"].add(node.attr)
        for first in sorts:
            for second in sorts:
                if first < second:
                    self.assertEqual(sorts[first] & sorts[second], set(), (first, second))
        for sort in ("property", "classmethod"):
            self.assertEqual(sorts[sort] & METHODS, set())
        self.assertFalse({"keys", "items", "values"} & (sorts["plain"] | sorts["stored"]))

    def test_interface_methods_stand_in_their_classes(self):
        wanted = {"Reader": "feed back text known offered is_complete value fork with_limit settled_at __eq__ __len__",
                  "Console": "say", "Script": "__call__ __len__ cost __invert__ __add__ __eq__ kept",
                  "Language": "of listed states __bool__ __contains__ __eq__ __and__ __or__ __sub__ __xor__ "
                              "__getitem__ rank_of lengths upto within __iter__",
                  "Gap": "before after first last forced forced_last closed fitting middles put put_last drop "
                         "drop_last undo fork __eq__",
                  "Mender": "feed __iadd__ text __len__ least price welcome nearest repair back fork __eq__"}
        files = {"Reader": "reader", "Console": "console", "Script": "changes", "Language": "languages", "Gap": "gaps",
                 "Mender": "menders"}
        found = {own.name: (path.stem, {node.name for node in own.body if isinstance(node, ast.FunctionDef)})
                 for path, own in self.each_class()}
        for name, methods in wanted.items():
            self.assertEqual(found[name][0], files[name])
            self.assertLessEqual(set(methods.split()), found[name][1])

    def test_operators_and_properties_change_nothing(self):
        functions, methods, waiting = {}, {}, []
        for _, _, tree in self.each_file():
            functions.update({node.name: node for node in tree.body if isinstance(node, ast.FunctionDef)})
        for _, own in self.each_class():
            for node in own.body:
                if isinstance(node, ast.FunctionDef):
                    methods.setdefault(node.name, []).append(node)
                    if node.name in PURE or [part for part in node.decorator_list
                                             if getattr(part, "id", "") == "property"]:
                        waiting.append(node)
                    if node.name == "__init__":
                        functions[own.name] = node
        reached = []
        while waiting:
            node = waiting.pop()
            if node in reached:
                continue
            reached.append(node)
            self.check_pure(node)
            for part in ast.walk(node):
                if isinstance(part, ast.Call) and isinstance(part.func, ast.Name) and part.func.id in functions:
                    waiting.append(functions[part.func.id])
                elif isinstance(part, ast.Call) and isinstance(part.func, ast.Attribute):
                    waiting += methods.get(part.func.attr, [])
        self.assertGreater(len(reached), 40)

    def check_pure(self, function):
        """Check that a function changes nothing but lists and dicts that it has created."""
        arguments = {part.arg for part in function.args.args}
        assigned = {}
        for node in ast.walk(function):
            self.assertNotIsInstance(node, (ast.AugAssign, ast.Delete, ast.Global, ast.Nonlocal), function.name)
            if isinstance(node, ast.Assign):
                for target in node.targets:
                    if isinstance(target, ast.Name):
                        assigned.setdefault(target.id, []).append(node.value)

        def is_own(name):
            return name not in arguments and name in assigned and all(
                isinstance(value, (ast.List, ast.Dict, ast.ListComp, ast.DictComp, ast.Set))
                or isinstance(value, ast.Call) and getattr(value.func, "id", "") in MAKERS
                or isinstance(value, ast.BinOp) and isinstance(value.op, ast.Mult) and isinstance(value.left, ast.List)
                for value in assigned[name])

        kept = [part for part in ast.walk(function)
                if isinstance(part, ast.Attribute) and isinstance(part.ctx, ast.Store)]
        for part in kept:
            self.assertEqual(part.value.id, "self")
            self.assertTrue(function.name == "__init__" or part.attr == "_kept_" + function.name, function.name)
        for node in ast.walk(function):
            changed = None
            if isinstance(node, ast.Subscript) and isinstance(node.ctx, ast.Store):
                changed = node.value
            elif isinstance(node, ast.Call) and isinstance(node.func, ast.Attribute) and node.func.attr in CHANGING:
                changed = node.func.value
            while isinstance(changed, ast.Subscript):
                changed = changed.value
            if changed is not None:
                self.assertTrue(isinstance(changed, ast.Name) and is_own(changed.id),
                                (function.name, ast.unparse(node)))

    def test_no_generators_and_no_sets_that_are_iterated(self):
        for path, _, tree in self.each_file():
            for node in ast.walk(tree):
                self.assertNotIsInstance(node, (ast.GeneratorExp, ast.Yield, ast.YieldFrom), path.name)
                if isinstance(node, (ast.For, ast.comprehension)) and isinstance(node.iter, ast.Call):
                    self.assertNotEqual(getattr(node.iter.func, "id", ""), "set", path.name)
                if isinstance(node, ast.Compare) and any(isinstance(sign, (ast.Is, ast.IsNot)) for sign in node.ops):
                    self.assertIsInstance(node.comparators[0], ast.Constant, path.name)

    def test_no_two_files_import_from_each_other(self):
        imports = {}
        for path, _, tree in self.each_file():
            name = "soonknown." + path.stem
            imports[name] = {node.module for node in tree.body if isinstance(node, ast.ImportFrom)}
        for name in imports:
            reached, waiting = set(), list(imports[name])
            while waiting:
                module = waiting.pop()
                if module in imports and module not in reached:
                    reached.add(module)
                    waiting += imports[module]
            self.assertNotIn(name, reached)


if __name__ == "__main__":
    unittest.main()
