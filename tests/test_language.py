"""Those rules of the language that can be read off the package's files. (Not all of them can.)"""

import ast
import builtins
import pathlib
import re
import unittest

PACKAGE = pathlib.Path(__file__).resolve().parent.parent / "fewcolours"
FILES = sorted(path for path in PACKAGE.rglob("*") if "__pycache__" not in path.parts and path.is_file())

BUILTINS = set("""len range enumerate zip min max sum abs sorted reversed int str bool bytes list tuple dict set
    isinstance ord repr any all divmod Exception ValueError TypeError KeyError IndexError LookupError
    ZeroDivisionError ArithmeticError OverflowError RuntimeError NotImplementedError AttributeError StopIteration
    NotImplemented iter next super property staticmethod classmethod""".split())
BARRED_ATTRIBUTES = set("""items keys values pop update append clear extend insert remove reverse setdefault sort args
    encode decode hex fromhex format format_map mro as_integer_ratio bit_count conjugate from_bytes is_integer
    to_bytes""".split())
DUNDERS = set("__init__ __eq__ __repr__ __str__ __len__ __enter__ __exit__ __call__ __iter__".split())
METHODS = set("""append clear copy count endswith extend find get index insert isalnum isalpha isdigit islower isspace
    isupper items join keys ljust lower lstrip partition pop remove replace reverse rfind rjust rpartition rsplit
    rstrip setdefault split splitlines startswith strip update upper values zfill bit_length title capitalize
    swapcase casefold center expandtabs removeprefix removesuffix rindex isascii isdecimal isnumeric istitle
    isidentifier isprintable add discard sort""".split())
BARRED_WORDS = """type typing typing_extensions enum Enum IntEnum StrEnum Flag IntFlag Generic Protocol ABC ABCMeta
    namedtuple NamedTuple TypedDict TYPE_CHECKING abstractmethod""".split()
BARRED_PARTS = "dataclass overload contextmanager".split()
BARRED_NAMES = set("""register mro elements open input version_info with_traceback add_note attrgetter breakpoint
    compile copyright credits delattr dir eval exec exit gc getattr globals hasattr help id importlib license locals
    methodcaller os quit setattr vars sys""".split())
BARRED_NODES = (ast.Global, ast.AsyncFunctionDef, ast.AsyncFor, ast.AsyncWith, ast.Await, ast.Import, ast.Div)
STORED_NOT = {"zip", "enumerate", "reversed", "range", "items", "keys", "values"}


def called_name(node):
    """The name by which a call is made, or None."""
    if not isinstance(node, ast.Call):
        return None
    return getattr(node.func, "id", getattr(node.func, "attr", None))


def bound_names(tree):
    """All names that a file binds: by assignments, loops, parameters, functions, classes and imports."""
    for node in ast.walk(tree):
        if isinstance(node, ast.Name) and not isinstance(node.ctx, ast.Load):
            yield node.id
        elif isinstance(node, ast.arg):
            yield node.arg
        elif isinstance(node, (ast.FunctionDef, ast.ClassDef)):
            yield node.name
        elif isinstance(node, ast.alias):
            yield node.asname or node.name
        elif isinstance(node, (ast.MatchAs, ast.MatchStar)) and node.name is not None:
            yield node.name


class Language(unittest.TestCase):
    def setUp(self):
        self.texts = {path.name: path.read_bytes().decode("ascii") for path in FILES}
        self.trees = {name: ast.parse(text) for name, text in self.texts.items()}

    def nodes(self, *kinds):
        for name, tree in self.trees.items():
            for node in ast.walk(tree):
                if isinstance(node, kinds):
                    yield f"{name}:{getattr(node, 'lineno', 0)}", node

    def test_l1_l14_files(self):
        self.assertTrue(FILES)
        for path in FILES:
            self.assertEqual(path.parent, PACKAGE)
            self.assertRegex(path.name, r"^([a-z][a-z0-9_]*|__init__)\.py$")
        self.assertIn("__init__.py", self.texts)

    def test_l10_l14_sizes_and_characters(self):
        for name, text in self.texts.items():
            lines = text.split("\n")
            self.assertLessEqual(len(lines), 400, name)
            self.assertLessEqual(max(len(line) for line in lines), 120, name)
            self.assertRegex(text, r"\A[ -~\n]*\Z", name)
        for where, node in self.nodes(ast.FunctionDef):
            self.assertLessEqual(node.end_lineno - node.lineno + 1, 40, where)

    def test_l2_l16_imports(self):
        edges = {name: set() for name in self.trees}
        for name, tree in self.trees.items():
            for node in ast.walk(tree):
                if not isinstance(node, ast.ImportFrom):
                    continue
                self.assertIn(node, tree.body, name)
                self.assertEqual(node.level, 0, name)
                self.assertRegex(node.module, r"^fewcolours\.[a-z]+$", name)
                source = node.module.split(".")[1] + ".py"
                defined = {each.name for each in self.trees[source].body if hasattr(each, "name")}
                defined |= {each.targets[0].id for each in self.trees[source].body if isinstance(each, ast.Assign)}
                for alias in node.names:
                    self.assertIn(alias.name, defined, name)
                edges[name].add(source)
        done = set()
        while len(done) < len(edges):
            ready = [name for name in edges if name not in done and edges[name] <= done]
            self.assertTrue(ready, "files import from each other")
            done.update(ready)

    def test_l6_l7_statements_and_signs(self):
        for where, node in self.nodes(*BARRED_NODES):
            self.fail(f"{where} {node}")
        for where, node in self.nodes(ast.Constant):
            self.assertNotIsInstance(node.value, (float, complex), where)
            if isinstance(node.value, str):
                self.assertNotIn("%", node.value, where)

    def test_l8_l12_l15_l17_names(self):
        for name, tree in self.trees.items():
            bound = list(bound_names(tree))
            for word in bound:
                self.assertTrue(word in DUNDERS or not word.startswith("_"), (name, word))
                self.assertNotIn(word, BARRED_NAMES, name)
                self.assertNotIn(word, dir(builtins), name)
            for node in ast.walk(tree):
                if isinstance(node, ast.Name) and isinstance(node.ctx, ast.Load) and node.id not in bound:
                    self.assertIn(node.id, BUILTINS, name)

    def test_l15_module_names_are_bound_once(self):
        for name, tree in self.trees.items():
            top = []
            for node in tree.body:
                top.extend(alias.asname or alias.name for alias in getattr(node, "names", []))
                top.extend(target.id for target in getattr(node, "targets", []))
                top.extend([node.name] if hasattr(node, "name") else [])
            self.assertEqual(len(top), len(set(top)), name)

    def test_l15_no_local_has_the_name_of_an_import_a_class_or_a_function(self):
        for name, tree in self.trees.items():
            top = {alias.asname or alias.name for node in tree.body for alias in getattr(node, "names", [])}
            top |= {node.name for node in tree.body if hasattr(node, "name")}
            for node in ast.walk(tree):
                if isinstance(node, ast.Name) and not isinstance(node.ctx, ast.Load):
                    self.assertNotIn(node.id, top, name)
                elif isinstance(node, ast.arg):
                    self.assertNotIn(node.arg, top, name)
                elif isinstance(node, (ast.MatchAs, ast.MatchStar)):
                    self.assertNotIn(node.name, top, name)

    def test_l16_every_import_is_used(self):
        for name, tree in self.trees.items():
            used = {node.id for node in ast.walk(tree) if isinstance(node, ast.Name)}
            for node in tree.body:
                for alias in getattr(node, "names", []):
                    self.assertIn(alias.name, used, name)

    def test_l24_no_set_is_iterated(self):
        for where, node in self.nodes(ast.For, ast.comprehension):
            self.assertNotIsInstance(node.iter, (ast.Set, ast.SetComp), where)
            self.assertNotIn(called_name(node.iter), {"set", "frozenset"}, where)

    def test_l17_barred_words(self):
        for name, text in self.texts.items():
            words = re.findall(r"[A-Za-z0-9_]+", text)
            self.assertEqual([word for word in words if word in BARRED_WORDS], [], name)
            self.assertEqual([part for part in BARRED_PARTS if part in text], [], name)

    def test_l18_l26_methods_and_attributes(self):
        methods = {method.name for where, node in self.nodes(ast.ClassDef) for method in node.body
                   if isinstance(method, ast.FunctionDef)} - DUNDERS
        set_somewhere = {node.attr for where, node in self.nodes(ast.Attribute) if isinstance(node.ctx, ast.Store)}
        self.assertEqual(methods & set_somewhere, set())
        self.assertEqual((methods | set_somewhere) & BARRED_ATTRIBUTES, set())
        called = {id(node.func) for where, node in self.nodes(ast.Call)}
        for where, node in self.nodes(ast.Attribute):
            if id(node) not in called:
                self.assertIn(node.attr, set_somewhere, where)

    def test_l6_captured_names_are_read_in_their_case_only(self):
        for where, function in self.nodes(ast.FunctionDef):
            for node in ast.walk(function):
                if not isinstance(node, ast.Match):
                    continue
                captured = {name for case in node.cases for name in bound_names(case.pattern)}
                inside = {id(each) for case in node.cases for each in ast.walk(case)}
                for case in node.cases:
                    own = set(bound_names(case.pattern))
                    for each in ast.walk(case):
                        if isinstance(each, ast.Name) and each.id in captured:
                            self.assertIn(each.id, own, where)
                            self.assertIsInstance(each.ctx, ast.Load, where)
                outside = [each for each in ast.walk(function) if id(each) not in inside]
                names = {each.id for each in outside if isinstance(each, ast.Name)}
                names |= {each.arg for each in outside if isinstance(each, ast.arg)}
                self.assertEqual(names & captured, set(), where)

    def test_l20_is(self):
        for where, node in self.nodes(ast.Compare):
            for sign, right in zip(node.ops, node.comparators):
                if isinstance(sign, (ast.Is, ast.IsNot)):
                    self.assertTrue(isinstance(right, ast.Constant) and right.value in (None, True, False), where)

    def test_l23_iterated_at_once(self):
        for where, node in self.nodes(ast.Assign, ast.Return, ast.AnnAssign):
            self.assertNotIn(called_name(node.value), STORED_NOT, where)

    def test_l25_methods(self):
        own = {node.name for where, node in self.nodes(ast.FunctionDef)}
        for where, node in self.nodes(ast.Call):
            if isinstance(node.func, ast.Attribute):
                self.assertIn(node.func.attr, METHODS | own | DUNDERS, where)

    def test_l27_powers(self):
        for where, node in self.nodes(ast.BinOp):
            if isinstance(node.op, ast.Pow):
                self.assertIsInstance(node.right, ast.Constant, where)
                self.assertIn(node.right.value, range(65), where)


if __name__ == "__main__":
    unittest.main()
