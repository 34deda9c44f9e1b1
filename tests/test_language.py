"""The rules of the Python subset, as far as they can be checked simply, over all files of the package."""

import ast
import builtins
import os
import re
import tokenize
import unittest

TOP = os.path.dirname(os.path.dirname(os.path.abspath(__file__)))
PACKAGE = os.path.join(TOP, "manyheads")

BUILTINS = set(
    "len range enumerate zip min max sum abs sorted reversed int str bool list tuple dict set isinstance ord repr any "
    "all divmod ValueError KeyError".split())
METHODS = set(
    "append clear copy count endswith extend find get index insert isalnum isalpha isdigit islower isspace isupper "
    "items join keys ljust lower lstrip partition pop remove replace reverse rfind rjust rpartition rsplit rstrip "
    "setdefault split splitlines startswith strip update upper values zfill bit_length sort add discard isascii".split())
LIBRARY = {"heapq": {"heapify", "heappush", "heappop"}}
BARRED = set(
    "register mro elements open input law version_info with_traceback add_note attrgetter breakpoint builtins compile "
    "copyright credits delattr dir eval exec exit gc getattr globals hasattr help id importlib license locals "
    "methodcaller os quit setattr super type vars sys typing typing_extensions enum Enum IntEnum StrEnum Flag IntFlag "
    "Generic Protocol ABC ABCMeta namedtuple NamedTuple TypedDict TYPE_CHECKING abstractmethod".split())
BARRED_ATTRIBUTES = set(
    "items keys values pop update append clear extend insert remove reverse setdefault sort args encode decode hex "
    "fromhex format format_map mro".split())
AT_ONCE = set("list tuple dict sorted sum any all enumerate zip min max join".split())
VIEWS = set("range zip enumerate reversed items keys values".split())
NODES = (
    ast.Module, ast.FunctionDef, ast.ClassDef, ast.Return, ast.Delete, ast.Assign, ast.AugAssign, ast.For, ast.While,
    ast.If, ast.Raise, ast.Try, ast.Assert, ast.ImportFrom, ast.Expr, ast.Pass, ast.Break, ast.Continue, ast.BoolOp,
    ast.BinOp, ast.UnaryOp, ast.Lambda, ast.IfExp, ast.Dict, ast.Set, ast.ListComp, ast.SetComp, ast.DictComp,
    ast.GeneratorExp, ast.Compare, ast.Call, ast.FormattedValue, ast.JoinedStr, ast.Constant, ast.Attribute,
    ast.Subscript, ast.Starred, ast.Name, ast.List, ast.Tuple, ast.Slice, ast.comprehension, ast.ExceptHandler,
    ast.arguments, ast.arg, ast.keyword, ast.alias, ast.expr_context, ast.boolop, ast.operator, ast.unaryop, ast.cmpop)
FUNCTIONS = (ast.FunctionDef, ast.Lambda)
COMPREHENSIONS = (ast.ListComp, ast.SetComp, ast.DictComp, ast.GeneratorExp)


def package_files():
    return sorted(name for name in os.listdir(PACKAGE) if name != "__pycache__")


def text_of(name):
    with open(os.path.join(PACKAGE, name), encoding="utf-8", newline="") as file:
        return file.read()


def parents_of(tree):
    found = {}
    for node in ast.walk(tree):
        for child in ast.iter_child_nodes(node):
            found[child] = node
    return found


def called(node):
    """The name by which a call calls, of a function or a method."""
    if isinstance(node.func, ast.Name):
        return node.func.id
    return node.func.attr if isinstance(node.func, ast.Attribute) else ""


def is_set(node):
    """Whether an expression makes a set."""
    if isinstance(node, ast.BinOp):
        return is_set(node.left) or is_set(node.right)
    return isinstance(node, (ast.Set, ast.SetComp)) or isinstance(node, ast.Call) and called(node) == "set"


class Language(unittest.TestCase):

    @classmethod
    def setUpClass(cls):
        cls.texts = {name: text_of(name) for name in package_files()}
        cls.trees = {name: ast.parse(text) for name, text in cls.texts.items()}
        cls.parents = {name: parents_of(tree) for name, tree in cls.trees.items()}
        nodes = [node for tree in cls.trees.values() for node in ast.walk(tree)]
        cls.classes = [node for node in nodes if isinstance(node, ast.ClassDef)]
        cls.own_methods = {part.name for node in cls.classes for part in node.body if isinstance(part, ast.FunctionDef)}
        cls.assigned = {node.attr for node in nodes
                        if isinstance(node, ast.Attribute) and isinstance(node.ctx, ast.Store)}

    def walk(self, kind):
        for name, tree in self.trees.items():
            for node in ast.walk(tree):
                if isinstance(node, kind):
                    yield f"{name}:{getattr(node, 'lineno', 0)}", node, self.parents[name]

    def test_files(self):
        self.assertIn("__init__.py", self.texts)
        self.assertLessEqual(len(self.texts), 100)
        for name, text in self.texts.items():
            self.assertTrue(name == "__init__.py" or re.fullmatch("[a-z][a-z0-9_]*[.]py", name), name)
            self.assertLessEqual(len(text.splitlines()), 399, name)
            self.assertEqual([sign for sign in text if sign != "\n" and not " " <= sign <= "~"], [], name)
            for at, line in enumerate(text.split("\n"), start=1):
                self.assertLessEqual(len(line), 120, f"{name}:{at}")

    def test_only_plain_parts(self):
        for where, node, _ in self.walk(ast.AST):
            self.assertIsInstance(node, NODES, where)
        for where, node, _ in self.walk((ast.FunctionDef, ast.ClassDef)):
            self.assertEqual(node.decorator_list, [], where)
        for where, node, _ in self.walk((ast.Div, ast.MatMult)):
            self.fail(where)

    def test_module_level(self):
        for name, tree in self.trees.items():
            bound = []
            for at, node in enumerate(tree.body):
                if isinstance(node, ast.Expr):
                    self.assertTrue(at == 0 and isinstance(node.value.value, str), name)
                elif isinstance(node, ast.Assign):
                    self.assertEqual(len(node.targets), 1)
                    self.assertIsInstance(node.targets[0], ast.Name)
                    self.assertNotIsInstance(node.value, (ast.Call, ast.Set), name)
                    bound.append(node.targets[0].id)
                elif isinstance(node, ast.ImportFrom):
                    bound += [part.asname or part.name for part in node.names]
                else:
                    self.assertIsInstance(node, (ast.FunctionDef, ast.ClassDef), name)
                    bound.append(node.name)
            self.assertEqual(len(bound), len(set(bound)), name)

    def test_imports(self):
        reached = {}
        for name, tree in self.trees.items():
            reached[name] = []
            for node in tree.body:
                if not isinstance(node, ast.ImportFrom):
                    continue
                if node.module in LIBRARY:
                    self.assertLessEqual({part.name for part in node.names}, LIBRARY[node.module], name)
                    self.assertTrue(all(part.asname is None for part in node.names), name)
                    continue
                folder, _, module = node.module.partition(".")
                self.assertEqual((folder, node.level), ("manyheads", 0), name)
                there = [part.targets[0].id if isinstance(part, ast.Assign) else part.name
                         for part in self.trees[f"{module}.py"].body
                         if isinstance(part, (ast.Assign, ast.FunctionDef, ast.ClassDef))]
                for part in node.names:
                    self.assertIn(part.name, there, name)
                    self.assertIsNone(part.asname, name)
                    uses = [use for use in ast.walk(tree) if isinstance(use, ast.Name) and use.id == part.name]
                    self.assertTrue(uses, f"{name}: {part.name} is imported and not used")
                reached[name].append(f"{module}.py")
        left = dict(reached)
        while left:
            free = [name for name in left if not any(other in left for other in left[name])]
            self.assertTrue(free, f"imports in a ring: {sorted(left)}")
            for name in free:
                del left[name]
        for where, node, parents in self.walk((ast.Import, ast.ImportFrom)):
            self.assertIsInstance(parents[node], ast.Module, where)

    def test_functions(self):
        for where, node, _ in self.walk(ast.FunctionDef):
            self.assertLessEqual(node.end_lineno - node.lineno + 1, 40, where)
            parameters = node.args.posonlyargs + node.args.args + node.args.kwonlyargs
            self.assertTrue(all(part.annotation is None for part in parameters), where)
            self.assertIsNone(node.returns, where)
            if node.name.startswith("__"):
                self.assertIn(node.name, ("__init__",), where)
        for where, node, parents in self.walk(ast.ClassDef):
            self.assertIsInstance(parents[node], ast.Module, where)
            for part in node.body:
                plain = isinstance(part, ast.FunctionDef) or isinstance(part, ast.Expr)
                self.assertTrue(plain and (not isinstance(part, ast.Expr) or isinstance(part.value.value, str)), where)

    def test_names(self):
        for name, tree in self.trees.items():
            taken = {part.name for node in tree.body if isinstance(node, ast.ImportFrom) for part in node.names}
            taken |= {node.name for node in tree.body if isinstance(node, ast.ClassDef)}
            top = {target for node in tree.body if isinstance(node, ast.Assign) for target in node.targets}
            for node in ast.walk(tree):
                here = f"{name}:{getattr(node, 'lineno', 0)}"
                bound = []
                if isinstance(node, ast.Name) and isinstance(node.ctx, (ast.Store, ast.Del)) and node not in top:
                    bound = [node.id]
                elif isinstance(node, ast.arg):
                    bound = [node.arg]
                elif isinstance(node, ast.ExceptHandler) and node.name:
                    bound = [node.name]
                for word in bound:
                    self.assertNotIn(word, taken, here)
                if isinstance(node, (ast.FunctionDef, ast.ClassDef)):
                    bound = [node.name]
                for word in bound:
                    self.assertFalse(word in vars(builtins), here)
                    self.assertNotIn(word, BARRED, here)
                    self.assertTrue(word == "_" or re.fullmatch("_?[A-Za-z][A-Za-z0-9_]*|__init__", word), here)
                    self.assertIsNone(re.match("_wall|_pe_|_dcw_|_enum_|_cm_|_twin_re_|_lay_|_law_|_stub_|_sre|"
                                               "_cold|_tuplegetter|_outside|_record|_written_out|_member_names",
                                               word), here)
            words = set(re.findall("[A-Za-z_]+", re.sub('(?s)""".*?"""|#[^\n]*', "", self.texts[name])))
            self.assertEqual(words & BARRED, set(), name)

    def test_builtins(self):
        for where, node, _ in self.walk(ast.Name):
            if node.id in vars(builtins):
                self.assertIn(node.id, BUILTINS, where)
            if isinstance(node.ctx, ast.Load):
                self.assertNotEqual(node.id, "_", where)

    def test_methods_and_attributes(self):
        for where, node, parents in self.walk(ast.Attribute):
            parent = parents[node]
            if isinstance(parent, ast.Call) and parent.func is node:
                self.assertIn(node.attr, METHODS | self.own_methods | {"__init__"}, where)
            elif isinstance(node.ctx, ast.Load):
                self.assertIn(node.attr, self.assigned, where)
            else:
                self.assertNotIn(node.attr, BARRED_ATTRIBUTES | BARRED, where)
                self.assertNotIn(node.attr, self.own_methods, where)
                self.assertFalse(node.attr.startswith("__"), where)
        for node in self.classes:
            for part in node.body:
                if isinstance(part, ast.FunctionDef) and part.name != "__init__":
                    self.assertFalse(any(hasattr(value, part.name) for value in ("", 0, [], {}, set(), b"")), part.name)

    def test_strings(self):
        for where, node, _ in self.walk(ast.Constant):
            if isinstance(node.value, str):
                self.assertNotIn("%", node.value, where)
                self.assertNotRegex(node.value, "[.]__?$|^__.*__$", where)
            else:
                self.assertTrue(node.value is None or isinstance(node.value, (bool, int)), where)
        for name in self.texts:
            with tokenize.open(os.path.join(PACKAGE, name)) as file:
                for token in tokenize.generate_tokens(file.readline):
                    if token.type == tokenize.STRING:
                        self.assertEqual(re.findall(r"\\[^nt\\'\"]", token.string), [], name)
                        self.assertRegex(token.string, "^f?[\"']", name)

    def test_is(self):
        for where, node, _ in self.walk(ast.Compare):
            for sign, side in zip(node.ops, node.comparators):
                if isinstance(sign, (ast.Is, ast.IsNot)):
                    self.assertIsInstance(side, ast.Constant, where)

    def test_errors(self):
        own = {node.name for node in self.classes}
        for where, node, _ in self.walk(ast.ExceptHandler):
            kinds = node.type.elts if isinstance(node.type, ast.Tuple) else [node.type]
            for kind in kinds:
                self.assertIn(kind.id, own | {"KeyError"}, where)
        for where, node, _ in self.walk(ast.Raise):
            if node.exc is not None:
                self.assertIn(node.exc.func.id, own, where)

    def test_iterated_at_once(self):
        for where, node, parents in self.walk((ast.Call, ast.GeneratorExp)):
            parent = parents[node]
            if isinstance(node, ast.Call) and called(node) not in VIEWS:
                continue
            if isinstance(parent, (ast.For, ast.comprehension)):
                self.assertIs(parent.iter, node, where)
            else:
                self.assertIsInstance(parent, ast.Call, where)
                self.assertIn(called(parent), AT_ONCE, where)

    def test_what_is_iterated_stays(self):
        for where, node, _ in self.walk(ast.For):
            over = ast.dump(node.iter)
            for part in ast.walk(node):
                if isinstance(part, ast.Call) and isinstance(part.func, ast.Attribute):
                    if part.func.attr in ("append", "extend", "pop", "remove", "insert", "clear", "update", "add"):
                        self.assertNotEqual(ast.dump(part.func.value), over, where)
                if isinstance(part, ast.Subscript) and isinstance(part.ctx, (ast.Store, ast.Del)):
                    self.assertNotEqual(re.sub("Store|Del", "Load", ast.dump(part.value)), over, where)

    def test_sets(self):
        for where, node, parents in self.walk((ast.Set, ast.SetComp, ast.Call)):
            if not is_set(node) or isinstance(parents[node], ast.BinOp):
                continue
            parent = parents[node]
            if isinstance(parent, ast.Call):
                self.assertIn(called(parent), ("sorted", "len"), where)
            elif isinstance(parent, ast.Assign):
                self.assertIsInstance(parent.targets[0], ast.Name, where)
                self.stored_set(where, node, parent.targets[0].id, parents)
            else:
                self.assertIsInstance(parent, ast.Compare, where)

    def stored_set(self, where, node, word, parents):
        """See that a set that a variable keeps is only used as one may be."""
        around = node
        while not isinstance(around, FUNCTIONS):
            around = parents[around]
        stores = 0
        for use in ast.walk(around):
            if not isinstance(use, ast.Name) or use.id != word:
                continue
            parent = parents[use]
            if isinstance(use.ctx, ast.Store):
                stores += 1
            elif isinstance(parent, ast.Call):
                self.assertIn(called(parent), ("sorted", "len"), where)
            elif isinstance(parent, ast.Attribute):
                self.assertIn(parent.attr, ("add", "discard"), where)
                self.assertIsInstance(parents[parents[parent]], ast.Expr, where)
            else:
                self.assertIsInstance(parent, (ast.Compare, ast.If, ast.While, ast.IfExp), where)
        self.assertEqual(stores, 1, where)
        self.assertNotIn("add", self.own_methods)
