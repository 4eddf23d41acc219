"""The code of the package keeps to the subset of Python in ../shared/LANGUAGE.md, as far as is checked here."""

import ast
import builtins
import pathlib
import unittest

FOLDER = pathlib.Path(__file__).resolve().parent.parent / "stopsfirst"
FILES = sorted(FOLDER.glob("*.py"))

BUILTINS = set("""len range enumerate zip min max sum abs sorted reversed int str bool list tuple dict set isinstance ord
    repr any all divmod ValueError""".split())
METHODS = set("""append clear copy count endswith extend find get index insert isalnum isalpha isdigit islower isspace
    isupper items join keys ljust lower lstrip partition pop remove replace reverse rfind rjust rpartition rsplit rstrip
    setdefault split splitlines startswith strip update upper values zfill bit_length""".split())
NODES = """Module Expr Constant ImportFrom alias FunctionDef arguments arg ClassDef Assign AugAssign Name Load Store
    Return If For While Break Continue Pass Raise Try ExceptHandler Call keyword Attribute Subscript Slice Tuple List
    Dict Set ListComp DictComp SetComp comprehension Lambda IfExp BoolOp And Or UnaryOp Not Invert USub BinOp Add Sub
    Mult FloorDiv Mod BitAnd BitOr BitXor LShift RShift Compare Eq NotEq Lt LtE Gt GtE In NotIn Is IsNot Starred
    JoinedStr FormattedValue""".split()
BARRED = set("""register mro elements open input law type typing enum exit eval exec compile vars dir id help license
    copyright credits globals locals super getattr setattr hasattr sys os gc quit""".split())
AT_ONCE = ("list", "tuple", "dict", "sorted", "sum", "any", "all", "enumerate", "zip", "min", "max", "len", "reversed")


def tree_of(path):
    return ast.parse(path.read_text(encoding="ascii"))


def walk(path, kind):
    return [node for node in ast.walk(tree_of(path)) if isinstance(node, kind)]


def called(node):
    return node.func.id if isinstance(node, ast.Call) and isinstance(node.func, ast.Name) else None


def with_parents(tree):
    parents = {}
    for node in ast.walk(tree):
        for child in ast.iter_child_nodes(node):
            parents[child] = node
    return parents


class LanguageTest(unittest.TestCase):
    def each_file(self):
        for path in FILES:
            with self.subTest(file=path.name):
                yield path

    def test_only_plain_files(self):
        for path in FOLDER.iterdir():
            if path.name != "__pycache__":
                self.assertTrue(path.suffix == ".py" and path.stem.replace("_", "").isalnum(), path.name)

    def test_characters_and_sizes(self):
        for path in self.each_file():
            text = path.read_text(encoding="ascii")
            self.assertTrue(all(sign == "\n" or " " <= sign <= "~" for sign in text))
            self.assertLessEqual(len(text.splitlines()), 399)
            self.assertLessEqual(max(len(line) for line in text.splitlines()), 120)
            for node in walk(path, ast.FunctionDef):
                self.assertLessEqual(node.end_lineno - node.lineno + 1, 40, node.name)

    def test_kinds_of_statements_and_expressions(self):
        for path in self.each_file():
            for node in ast.walk(tree_of(path)):
                self.assertIn(type(node).__name__, NODES)
                self.assertNotIsInstance(getattr(node, "value", None), (float, complex))

    def test_module_level(self):
        for path in self.each_file():
            seen = {}
            for node in tree_of(path).body:
                self.assertIsInstance(node, (ast.Expr, ast.ImportFrom, ast.FunctionDef, ast.ClassDef, ast.Assign))
                names = [node.name] if hasattr(node, "name") else []
                if isinstance(node, ast.ImportFrom):
                    names = [name.name for name in node.names]
                if isinstance(node, ast.Assign):
                    names = [target.id for target in node.targets]
                    self.assertEqual(len(names), 1)
                for name in names:
                    self.assertNotIn(name, seen)
                    seen[name] = True

    def test_imports(self):
        edges = {}
        for path in self.each_file():
            edges[path.stem] = []
            for node in walk(path, ast.ImportFrom):
                self.assertEqual(node.level, 0)
                self.assertTrue(node.module.startswith("stopsfirst."), node.module)
                source = node.module.removeprefix("stopsfirst.")
                edges[path.stem].append(source)
                self.assertTrue(all(name.asname is None for name in node.names))
                there = [other.name for other in tree_of(FOLDER / (source + ".py")).body if hasattr(other, "name")]
                self.assertTrue({name.name for name in node.names} <= set(there), node.module)
        self.assertTrue(edges)
        while edges:
            free = [name for name, sources in edges.items() if not any(source in edges for source in sources)]
            self.assertTrue(free, "imports go round")
            edges = {name: sources for name, sources in edges.items() if name not in free}

    def test_names(self):
        for path in self.each_file():
            tree = tree_of(path)
            taken = {node.name for node in tree.body if isinstance(node, ast.ClassDef)}
            taken |= {name.name for node in tree.body if isinstance(node, ast.ImportFrom) for name in node.names}
            for node in ast.walk(tree):
                name = self.bound(node)
                if name is not None:
                    self.assertTrue(name == "_" or not hasattr(builtins, name), name)
                    self.assertNotIn(name, BARRED)
                    if not isinstance(node, (ast.ClassDef, ast.FunctionDef)):
                        self.assertNotIn(name, taken)

    def bound(self, node):
        """The name that a node gives to something, if any; methods with two underscores are looked at elsewhere."""
        if isinstance(node, (ast.ClassDef, ast.FunctionDef)):
            return None if node.name.startswith("__") else node.name
        if isinstance(node, ast.arg):
            return node.arg
        return node.id if isinstance(node, ast.Name) and isinstance(node.ctx, ast.Store) else None

    def test_calls(self):
        own = {node.name for path in FILES for node in walk(path, ast.FunctionDef)}
        for path in self.each_file():
            for node in walk(path, ast.Call):
                if isinstance(node.func, ast.Attribute):
                    self.assertIn(node.func.attr, METHODS | own)
                else:
                    name = node.func.id
                    self.assertTrue(name in BUILTINS or not hasattr(builtins, name), name)

    def test_what_is_iterated_at_once(self):
        for path in self.each_file():
            parents = with_parents(tree_of(path))
            for node in parents:
                if called(node) in ("range", "zip", "enumerate", "reversed"):
                    above = parents[node]
                    self.assertTrue(isinstance(above, (ast.For, ast.comprehension)) or called(above) in AT_ONCE)

    def test_no_star_in_an_index_or_a_set(self):
        """[L7] A star may stand in list and tuple literals, but not where such a tuple is an index."""
        for path in self.each_file():
            places = [node.slice for node in walk(path, ast.Subscript)] + walk(path, ast.Set)
            for place in places:
                self.assertFalse([node for node in ast.walk(place) if isinstance(node, ast.Starred)], ast.unparse(place))

    def test_stars_in_calls(self):
        """[L7] Behind a star in a call stand only names and attributes off a name."""
        for path in self.each_file():
            for node in walk(path, ast.Call):
                self.assertTrue(all(word.arg is not None for word in node.keywords))
                for told in [told.value for told in node.args if isinstance(told, ast.Starred)]:
                    plain = isinstance(told, ast.Name) or isinstance(told, ast.Attribute) and isinstance(told.value, ast.Name)
                    self.assertTrue(plain, ast.unparse(node))

    def test_finally(self):
        """[L6] What is read in a `finally` is assigned before, and nothing but plain assignments stands there."""
        for path in self.each_file():
            for node in walk(path, ast.Try):
                for row in node.finalbody:
                    self.assertIsInstance(row, ast.Assign)
                    for told in ast.walk(row):
                        self.assertIsInstance(told, (ast.Assign, ast.Tuple, ast.Attribute, ast.Name, ast.Load, ast.Store))

    def test_words_in_strings(self):
        """[L17], [L27] Words that do not occur in strings, docstrings left out, and no sign that formats."""
        barred = {"type", "typing", "enum", "Enum", "Flag", "Generic", "Protocol", "ABC", "namedtuple", "overload"}
        for path in self.each_file():
            tree = tree_of(path)
            docs = {id(node.body[0].value) for node in ast.walk(tree)
                    if isinstance(node, (ast.Module, ast.ClassDef, ast.FunctionDef)) and isinstance(node.body[0], ast.Expr)}
            for node in ast.walk(tree):
                if isinstance(node, ast.Constant) and isinstance(node.value, str) and id(node) not in docs:
                    self.assertNotIn("%", node.value)
                    self.assertFalse(barred & set(node.value.split()), node.value)

    def test_sets(self):
        for path in self.each_file():
            parents = with_parents(tree_of(path))
            for node in parents:
                if isinstance(node, (ast.Set, ast.SetComp)) or called(node) == "set":
                    self.assertIn(called(parents[node]), ("sorted", "len"))
                    self.assertEqual(parents[node].keywords, [])

    def test_classes_and_decorators(self):
        allowed = ("__init__", "__eq__", "__repr__", "__str__", "__len__", "__call__")
        for path in self.each_file():
            for node in walk(path, ast.FunctionDef):
                self.assertTrue(all(ast.unparse(told) == "property" for told in node.decorator_list))
                self.assertTrue(not node.name.startswith("__") or node.name in allowed)
                nested = [other for other in ast.walk(node) if isinstance(other, ast.FunctionDef)]
                self.assertEqual(len(nested), 1, node.name)
            for node in walk(path, ast.ExceptHandler):
                for told in node.type.elts if isinstance(node.type, ast.Tuple) else [node.type]:
                    self.assertIsInstance(told, ast.Name)
                    self.assertFalse(hasattr(builtins, told.id))

    def test_names_of_attributes(self):
        """[L26], [L18] No attribute has the name of a method that values of Python's own have, or of an own one."""
        methods = {node.name for path in FILES for told in walk(path, ast.ClassDef) for node in told.body
                   if isinstance(node, ast.FunctionDef)}
        python = {name for kind in (str, bytes, list, dict, set, tuple, int) for name in vars(kind)} - {"count", "index"}
        for path in self.each_file():
            for node in walk(path, ast.Attribute):
                if isinstance(node.ctx, ast.Store):
                    self.assertNotIn(node.attr, methods | python)

    def test_loops_do_not_change_what_they_go_over(self):
        for path in self.each_file():
            for node in walk(path, ast.For):
                names = {ast.unparse(told) for told in ast.walk(node.iter)
                         if isinstance(told, (ast.Name, ast.Attribute, ast.Subscript))}
                for other in [told for row in node.body for told in ast.walk(row)]:
                    if isinstance(other, ast.Call) and isinstance(other.func, ast.Attribute):
                        if other.func.attr in ("append", "extend", "pop", "insert", "remove", "clear", "update"):
                            self.assertNotIn(ast.unparse(other.func.value), names)
                    if isinstance(other, ast.Subscript) and isinstance(other.ctx, ast.Store):
                        self.assertNotIn(ast.unparse(other.value), names)


if __name__ == "__main__":
    unittest.main()
