"""The main rules of LANGUAGE.md, as far as they show in the syntax tree of each file of the package."""

import ast
import builtins
import pathlib
import re
import unittest

# a doctest that has run puts a _ among them
BUILTINS = set(dir(builtins)) - {"_"}
FOLDER = pathlib.Path(__file__).resolve().parent.parent / "wherebeen"
CALLED = set("len range enumerate zip min max sum abs sorted reversed int str bool list tuple dict set isinstance ord "
             "repr any all divmod".split())
ERRORS = {"ValueError"}
METHODS = set("append clear copy count endswith extend find get index insert isalnum isalpha isdigit islower isspace "
              "isupper items join keys ljust lower lstrip partition pop remove replace reverse rfind rjust rpartition "
              "rsplit rstrip setdefault split splitlines startswith strip update upper values zfill bit_length add "
              "discard".split())
STATEMENTS = (ast.Assign, ast.AugAssign, ast.If, ast.While, ast.For, ast.Return, ast.Break, ast.Continue, ast.Pass,
              ast.Raise, ast.Assert, ast.Delete, ast.Try, ast.Expr, ast.FunctionDef, ast.ClassDef, ast.ImportFrom)
BARRED = (ast.GeneratorExp, ast.Yield, ast.YieldFrom, ast.Await, ast.NamedExpr, ast.Div, ast.Set)
WORDS = re.compile(r"\b(type|typing|typing_extensions|enum|Enum|IntEnum|StrEnum|Flag|IntFlag|Generic|Protocol|ABC|"
                   r"ABCMeta|namedtuple|NamedTuple|TypedDict|TYPE_CHECKING|abstractmethod)\b|dataclass|overload|"
                   r"contextmanager|_wall|_WallAttr")
NAMES = set("register mro elements open input law version_info with_traceback add_note attrgetter breakpoint builtins "
            "compile copyright credits delattr dir eval exec exit gc getattr globals hasattr help id importlib license "
            "locals methodcaller os quit setattr super type vars sys format format_map".split())
AT_ONCE = {"zip", "enumerate", "reversed", "range"}
ITERATING = {"list", "tuple", "dict", "sorted", "sum", "any", "all", "enumerate", "zip", "min", "max"}


def called_name(node):
    return node.func.id if isinstance(node, ast.Call) and isinstance(node.func, ast.Name) else None


class Language(unittest.TestCase):
    def setUp(self):
        self.files = sorted(FOLDER.glob("*.py"))
        self.texts = {path: path.read_text("utf-8") for path in self.files}
        self.trees = {path: ast.parse(text) for path, text in self.texts.items()}
        self.parents = {}
        for tree in self.trees.values():
            for node in ast.walk(tree):
                for child in ast.iter_child_nodes(node):
                    self.parents[child] = node

    def nodes(self, *sorts):
        for path, tree in self.trees.items():
            for node in ast.walk(tree):
                if isinstance(node, sorts or ast.AST):
                    yield f"{path.name}:{getattr(node, 'lineno', 0)}", node

    def defined(self, path):
        return {node.name for node in self.trees[path].body if isinstance(node, (ast.FunctionDef, ast.ClassDef))}

    def test_files(self):
        self.assertIn(FOLDER / "__init__.py", self.files)
        for path in FOLDER.iterdir():
            if path.name != "__pycache__":
                self.assertRegex(path.name, r"^([a-z][a-z0-9_]*|__init__|__main__)\.py$")
                self.assertNotIn(path.stem, BUILTINS)

    def test_characters_and_sizes(self):
        for path, text in self.texts.items():
            self.assertRegex(text, r"\A[ -~\n]*\Z", path.name)
            self.assertLessEqual(text.count("\n"), 399, path.name)
            self.assertLessEqual(max(map(len, text.split("\n"))), 120, path.name)
        for where, node in self.nodes(ast.FunctionDef):
            self.assertLessEqual(node.end_lineno - node.lineno + 1, 40, where)

    def test_words(self):
        for path, text in self.texts.items():
            bare = re.sub(r'"""[^"]*"""|#.*', "", text)
            self.assertIsNone(WORDS.search(bare), path.name)
            self.assertNotRegex(text, r"\\[^n\"\\]", path.name)
        for where, node in self.nodes(ast.Constant):
            self.assertNotIsInstance(node.value, float, where)
            if isinstance(node.value, str):
                self.assertNotIn("%", node.value, where)

    def test_module_level(self):
        for path, tree in self.trees.items():
            bound = []
            for index, node in enumerate(tree.body):
                where = f"{path.name}:{node.lineno}"
                if isinstance(node, ast.Assign):
                    self.assertEqual([type(target) for target in node.targets], [ast.Name], where)
                    made = {item.name for item in tree.body[:index] if isinstance(item, ast.FunctionDef)}
                    if isinstance(node.value, ast.Dict) and isinstance(node.value.values[0], ast.Name):
                        ast.literal_eval(ast.Tuple(node.value.keys, ast.Load()))
                        self.assertLessEqual({item.id for item in node.value.values}, made, where)
                    else:
                        ast.literal_eval(node.value)
                    bound.append(node.targets[0].id)
                elif isinstance(node, ast.Expr):
                    self.assertEqual(index, 0, where)
                elif isinstance(node, ast.ImportFrom):
                    bound += [name.name for name in node.names]
                else:
                    self.assertIsInstance(node, (ast.FunctionDef, ast.ClassDef), where)
                    bound.append(node.name)
            self.assertEqual(len(bound), len(set(bound)), path.name)

    def test_imports(self):
        reached = {}
        for path, tree in self.trees.items():
            own = [node for node in ast.walk(tree) if isinstance(node, (ast.Import, ast.ImportFrom))]
            reached[path.stem] = set()
            for node in own:
                self.assertIsInstance(node, ast.ImportFrom)
                self.assertIn(node, tree.body)
                self.assertRegex(node.module, r"^wherebeen\.[a-z_]+$")
                target = FOLDER / (node.module.partition(".")[2] + ".py")
                reached[path.stem].add(target.stem)
                for name in node.names:
                    self.assertIsNone(name.asname)
                    self.assertIn(name.name, self.defined(target), path.name)
                    used = [item for item in ast.walk(tree) if isinstance(item, ast.Name) and item.id == name.name]
                    self.assertTrue(used, (path.name, name.name))
        while reached:
            free = [name for name, others in reached.items() if not others & set(reached)]
            self.assertTrue(free, "files that import each other: " + " ".join(reached))
            for name in free:
                del reached[name]

    def test_statements_and_expressions(self):
        for where, node in self.nodes():
            if isinstance(node, ast.stmt):
                self.assertIsInstance(node, STATEMENTS, where)
            self.assertNotIsInstance(node, BARRED, where)
            if isinstance(node, (ast.FunctionDef, ast.ClassDef)):
                self.assertEqual(node.decorator_list, [], where)
            if isinstance(node, ast.ExceptHandler):
                self.assertIn(getattr(node.type, "id", None), self.defined(FOLDER / "errors.py"), where)
            if isinstance(node, ast.Expr) and not isinstance(node.value, ast.Constant):
                self.assertIsInstance(node.value, ast.Call, where)
            if isinstance(node, ast.Compare):
                for operator, side in zip(node.ops, node.comparators):
                    if isinstance(operator, (ast.Is, ast.IsNot)):
                        self.assertIsInstance(side, ast.Constant, where)

    def test_builtins_and_methods(self):
        own = {node.name for _, node in self.nodes(ast.FunctionDef, ast.ClassDef)}
        for where, node in self.nodes(ast.Name):
            if node.id in BUILTINS and not node.id.startswith("__"):
                self.assertIn(node.id, CALLED | ERRORS, where)
                parent = self.parents[node]
                if node.id in CALLED and called_name(parent) != node.id:
                    in_isinstance = called_name(parent) == "isinstance" or isinstance(parent, ast.Tuple)
                    self.assertTrue(in_isinstance and node.id in ("int", "str", "bool", "list", "tuple", "dict"), where)
        for where, node in self.nodes(ast.Call):
            if isinstance(node.func, ast.Attribute):
                self.assertIn(node.func.attr, METHODS | own, where)
                self.assertFalse(node.keywords and node.func.attr in METHODS, where)
            allowed = {"sorted": {"key", "reverse"}, "min": {"key", "default"}, "max": {"key", "default"},
                       "sum": {"start"}, "enumerate": {"start"}, "zip": {"strict"}}
            if called_name(node) in CALLED:
                self.assertLessEqual({word.arg for word in node.keywords}, allowed.get(called_name(node), set()), where)

    def test_names(self):
        for path, tree in self.trees.items():
            imported = {name.name for node in tree.body if isinstance(node, ast.ImportFrom) for name in node.names}
            classes = {node.name for node in tree.body if isinstance(node, ast.ClassDef)}
            for node in ast.walk(tree):
                name = None
                if isinstance(node, ast.arg):
                    name = node.arg
                elif isinstance(node, ast.Name) and isinstance(node.ctx, ast.Store):
                    name = node.id
                elif isinstance(node, ast.FunctionDef):
                    name = node.name
                if name is not None:
                    where = f"{path.name}:{node.lineno} {name}"
                    self.assertNotIn(name, NAMES | imported | classes, where)
                    self.assertNotIn(name, BUILTINS, where)
                    self.assertRegex(name, r"^(_|_?[a-z][a-z0-9_]*|[A-Z][A-Z_]*|__(init|eq)__)$", where)
                if isinstance(node, ast.Attribute):
                    self.assertNotIn(node.attr, {"mro", "format", "args", "sort", "elements", "register"}, path.name)

    def test_iterated_at_once(self):
        for where, node in self.nodes(ast.Call):
            method = isinstance(node.func, ast.Attribute) and node.func.attr in ("items", "keys", "values")
            if called_name(node) in AT_ONCE or method:
                parent = self.parents[node]
                at_once = isinstance(parent, (ast.For, ast.comprehension)) or called_name(parent) in ITERATING
                self.assertTrue(at_once or isinstance(parent, ast.Compare), where)

    def test_sets(self):
        for where, node in self.nodes(ast.SetComp, ast.Call):
            if isinstance(node, ast.SetComp) or called_name(node) == "set":
                parent = self.parents[node]
                self.assertTrue(called_name(parent) in ("sorted", "len") or isinstance(parent, ast.Compare), where)

    def test_nothing_that_is_gone_over_is_changed(self):
        changing = {"append", "extend", "pop", "remove", "insert", "clear", "add", "discard", "update", "setdefault"}
        for where, node in self.nodes(ast.For):
            over = {ast.dump(item).replace("Store()", "Load()") for item in ast.walk(node.iter)
                    if isinstance(item, (ast.Name, ast.Attribute))}
            for item in ast.walk(node):
                if isinstance(item, ast.Call) and isinstance(item.func, ast.Attribute) and item.func.attr in changing:
                    self.assertNotIn(ast.dump(item.func.value), over, where)
                if isinstance(item, ast.Subscript) and not isinstance(item.ctx, ast.Load):
                    self.assertNotIn(ast.dump(item.value), over, where)


if __name__ == "__main__":
    unittest.main()
