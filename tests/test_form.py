"""The form of the code: those rules of the language for this program that can be seen in a syntax tree.

The rules are wider in places; what the package does not use yet is not looked for here.
"""

import ast
import builtins
import re
import unittest
from pathlib import Path

PACKAGE = Path(__file__).resolve().parent.parent / "lastslip"
FILES = sorted(PACKAGE.rglob("*.py"))
BUILTINS = set("""len range enumerate zip min max sum abs sorted reversed int str bool list tuple dict set isinstance
    ord repr any all divmod iter next map Exception ValueError TypeError KeyError IndexError LookupError
    ZeroDivisionError ArithmeticError OverflowError RuntimeError NotImplementedError AttributeError StopIteration
    NotImplemented property staticmethod classmethod super""".split())
METHODS = set("""append clear copy count endswith extend find get index insert isalnum isalpha isdigit islower isspace
    isupper items join keys ljust lower lstrip partition pop remove replace reverse rfind rjust rpartition rsplit
    rstrip setdefault split splitlines startswith strip update upper values zfill bit_length add discard""".split())
LIBRARY = {"heapq": {"heappush", "heappop", "heapify", "heapreplace", "heappushpop"},
           "math": {"gcd", "lcm", "isqrt", "comb", "perm", "factorial"}}
UNUSED_NAMES = set("""register mro elements open input law version_info with_traceback add_note attrgetter breakpoint
    compile copyright credits delattr dir eval exec exit gc getattr globals hasattr help id importlib license locals
    methodcaller os quit setattr type vars sys""".split())
UNUSED_WORDS = re.compile(r"\b(type|typing|enum|Enum|Flag|Generic|Protocol|ABC|namedtuple|NamedTuple|TypedDict)\b"
                          r"|dataclass|overload|contextmanager|_wall|\(type\)|Meta|metaclass=")
DOUBLE = re.compile(r"__(init|eq|ne|lt|le|gt|ge|repr|str|len|enter|exit|call|iter|bool|contains|getitem|setitem|"
                    r"[ri]?(add|sub|mul|floordiv|mod|and|or|xor|lshift|rshift)|neg|pos|invert|abs)__")
NO_NODES = (ast.Global, ast.AsyncFunctionDef, ast.AsyncFor, ast.AsyncWith, ast.Await, ast.Div, ast.GeneratorExp,
            ast.Import, ast.MatMult)
TREES = {path: ast.parse(path.read_text(encoding="ascii")) for path in FILES}


def nodes(kind):
    """All nodes of a kind, with their files."""
    return [(path, node) for path, tree in TREES.items() for node in ast.walk(tree) if isinstance(node, kind)]


def at(path, node):
    return f"{path.name}:{getattr(node, 'lineno', 0)}"


def bound_names(tree):
    """All names that are bound as variables, parameters, functions or classes."""
    for node in ast.walk(tree):
        if isinstance(node, ast.Name) and not isinstance(node.ctx, ast.Load):
            yield node.id, node
        elif isinstance(node, ast.arg):
            yield node.arg, node
        elif isinstance(node, (ast.FunctionDef, ast.ClassDef)):
            yield node.name, node


class FilesTest(unittest.TestCase):
    def test_files_and_sizes(self):
        for path in PACKAGE.rglob("*"):
            if "__pycache__" not in path.parts and path.is_file():
                self.assertRegex(path.name, r"^[a-z0-9_]+\.py$")
                text = path.read_text(encoding="utf-8")
                self.assertRegex(text, r"^[ -~\n]*$")
                lines = text.split("\n")
                self.assertLessEqual(len(lines), 399, path)
                self.assertLessEqual(max(len(line) for line in lines), 120, path)
                self.assertIsNone(UNUSED_WORDS.search(text), path)

    def test_functions_are_small(self):
        for path, node in nodes(ast.FunctionDef):
            self.assertLessEqual(node.end_lineno - node.lineno + 1, 40, at(path, node))

    def test_module_level(self):
        for path, tree in TREES.items():
            for node in tree.body:
                good = isinstance(node, (ast.ImportFrom, ast.FunctionDef, ast.ClassDef))
                if isinstance(node, ast.Expr):
                    good = isinstance(node.value, ast.Constant) and isinstance(node.value.value, str)
                if isinstance(node, ast.Assign):
                    good = len(node.targets) == 1 and isinstance(node.targets[0], ast.Name)
                self.assertTrue(good, at(path, node))

    def test_init_binds_nothing(self):
        self.assertEqual(len(TREES[PACKAGE / "__init__.py"].body), 1)


class ImportsTest(unittest.TestCase):
    def test_imports(self):
        for path, node in nodes(ast.ImportFrom):
            self.assertEqual(node.level, 0)
            self.assertTrue(all(name.asname is None for name in node.names), at(path, node))
            names = {name.name for name in node.names}
            if node.module in LIBRARY:
                self.assertLessEqual(names, LIBRARY[node.module])
            else:
                self.assertTrue(node.module.startswith("lastslip."), at(path, node))
                own = TREES[PACKAGE / (node.module.split(".", 1)[1].replace(".", "/") + ".py")]
                made = {part.name for part in own.body if isinstance(part, (ast.FunctionDef, ast.ClassDef))}
                made |= {part.targets[0].id for part in own.body if isinstance(part, ast.Assign)}
                self.assertLessEqual(names, made, at(path, node))

    def test_no_two_files_import_from_each_other(self):
        needs = {path.stem: set() for path in FILES}
        for path, node in nodes(ast.ImportFrom):
            needs[path.stem].add(node.module.split(".")[-1])
        done = {"heapq", "math"}
        while len(done) < len(needs) + 2:
            ready = {name for name in needs if name not in done and needs[name] <= done}
            self.assertTrue(ready, "a circle of imports")
            done |= ready

    def test_no_import_or_name_is_unused(self):
        for path, tree in TREES.items():
            used = {node.id for node in ast.walk(tree) if isinstance(node, ast.Name)}
            for node in ast.walk(tree):
                if isinstance(node, ast.ImportFrom):
                    for name in node.names:
                        self.assertIn(name.name, used, at(path, node))


class NamesTest(unittest.TestCase):
    def test_names(self):
        for path, tree in TREES.items():
            barred = {name.name for node in tree.body if isinstance(node, ast.ImportFrom) for name in node.names}
            barred |= {node.name for node in tree.body if isinstance(node, ast.ClassDef)}
            methods = {id(part) for _, node in nodes(ast.ClassDef) for part in node.body}
            for name, node in bound_names(tree):
                self.assertNotIn(name, UNUSED_NAMES, at(path, node))
                if name.startswith("__"):
                    self.assertRegex(name, DOUBLE, at(path, node))
                    self.assertIn(id(node), methods)
                elif id(node) not in methods:
                    self.assertFalse(hasattr(builtins, name), at(path, node))
                if not isinstance(node, ast.ClassDef):
                    self.assertNotIn(name, barred, at(path, node))

    def test_builtins_that_are_used(self):
        for path, node in nodes(ast.Name):
            if hasattr(builtins, node.id):
                self.assertIn(node.id, BUILTINS, at(path, node))

    def test_underscore_is_never_read(self):
        for path, node in nodes(ast.Name):
            self.assertFalse(node.id == "_" and isinstance(node.ctx, ast.Load), at(path, node))

    def test_methods_that_are_called(self):
        own = {part.name for _, node in nodes(ast.ClassDef) for part in node.body if isinstance(part, ast.FunctionDef)}
        for path, node in nodes(ast.Call):
            if isinstance(node.func, ast.Attribute):
                self.assertIn(node.func.attr, METHODS | own, at(path, node))

    def test_attributes_that_are_read_are_assigned(self):
        assigned = {node.attr for _, node in nodes(ast.Attribute) if isinstance(node.ctx, ast.Store)} | {"setter"}
        for _, node in nodes(ast.ClassDef):
            assigned |= {part.name for part in node.body if isinstance(part, ast.FunctionDef)}
            assigned |= {part.targets[0].id for part in node.body if isinstance(part, ast.Assign)}
        for path, node in nodes(ast.Attribute):
            self.assertIn(node.attr, assigned | METHODS, at(path, node))

    def test_no_name_is_a_method_and_an_attribute(self):
        for path, made in nodes(ast.ClassDef):
            methods = {part.name for part in made.body if isinstance(part, ast.FunctionDef)}
            stored = {node.attr for node in ast.walk(made)
                      if isinstance(node, ast.Attribute) and isinstance(node.ctx, ast.Store)}
            self.assertFalse(methods & stored, at(path, made))
            parts = [part for part in made.body if isinstance(part, ast.FunctionDef)]
            setters = [part for part in parts
                       if any(ast.unparse(decorator).endswith(".setter") for decorator in part.decorator_list)]
            self.assertEqual(len(methods), len(parts) - len(setters))


    def test_names_of_methods_properties_and_attributes_differ(self):
        parts = [(path, part) for path, made in nodes(ast.ClassDef) for part in made.body
                 if isinstance(part, ast.FunctionDef)]
        decorated = {part.name for _, part in parts if part.decorator_list}
        plain = {part.name for _, part in parts if not part.decorator_list}
        stored = {node.attr for _, node in nodes(ast.Attribute) if isinstance(node.ctx, ast.Store)}
        self.assertFalse(decorated & plain)
        self.assertFalse(plain & stored)
        # The only property that is assigned has a setter wherever it stands.
        self.assertLessEqual(decorated & stored, {"limit"})

    def test_generators_have_names_of_their_own(self):
        made = [node for _, node in nodes(ast.FunctionDef)]
        for path, node in nodes(ast.FunctionDef):
            if any(isinstance(part, (ast.Yield, ast.YieldFrom)) for part in ast.walk(node)):
                self.assertEqual([other for other in made if other.name == node.name], [node], at(path, node))


class SyntaxTest(unittest.TestCase):
    def test_nodes_that_are_not_used(self):
        for path, node in nodes(NO_NODES):
            self.fail(f"{type(node).__name__} in {at(path, node)}")

    def test_literals(self):
        for path, node in nodes(ast.Constant):
            self.assertNotIsInstance(node.value, (float, complex, bytes), at(path, node))
            if isinstance(node.value, str):
                self.assertNotIn("%", node.value, at(path, node))
                self.assertFalse(node.value.endswith(("._", ".__")), at(path, node))
        for path in FILES:
            for escape in re.findall(r"\\.", path.read_text(encoding="ascii")):
                self.assertIn(escape, ("\\n", "\\t", "\\\\", "\\'", '\\"'), path)

    def test_decorators(self):
        for path, node in nodes((ast.FunctionDef, ast.ClassDef)):
            for decorator in node.decorator_list:
                text = ast.unparse(decorator)
                self.assertTrue(text in ("property", "classmethod", "staticmethod") or text.endswith(".setter"),
                                at(path, node))

    def test_calls_that_have_rules(self):
        for path, node in nodes(ast.Call):
            name = node.func.id if isinstance(node.func, ast.Name) else getattr(node.func, "attr", "")
            self.assertNotEqual(name, "sort", at(path, node))
            if name == "reversed":
                self.assertIn(ast.unparse(node.args[0]).split("(")[0], ("list", "tuple", "sorted", "range"))
            if name in ("reversed", "range", "zip", "enumerate", "items", "keys", "values"):
                self.assertIn(id(node), self.iterated(), at(path, node))

    def iterated(self):
        """The expressions that are iterated on the spot."""
        found = {id(node.iter) for _, node in nodes((ast.For, ast.comprehension))}
        takes = ("list", "tuple", "dict", "sorted", "sum", "enumerate", "zip", "min", "max")
        return found | {id(node.args[0]) for _, node in nodes(ast.Call)
                        if isinstance(node.func, ast.Name) and node.func.id in takes and node.args}

    def test_sets_stand_in_sorted_and_len_only(self):
        good = {id(node.args[0]) for _, node in nodes(ast.Call)
                if isinstance(node.func, ast.Name) and node.func.id in ("sorted", "len") and node.args}
        for path, node in nodes((ast.Set, ast.SetComp, ast.Call)):
            if not isinstance(node, ast.Call) or ast.unparse(node.func) == "set":
                self.assertIn(id(node), good, at(path, node))

    def test_powers(self):
        for path, node in nodes(ast.BinOp):
            if isinstance(node.op, ast.Pow):
                self.assertIsInstance(node.right, ast.Constant, at(path, node))

    def test_raise_creates_its_error(self):
        for path, node in nodes(ast.Raise):
            self.assertTrue(node.exc is None or isinstance(node.exc, ast.Call), at(path, node))

    def test_only_own_errors_are_caught(self):
        own = {node.name for _, node in nodes(ast.ClassDef)}
        for path, node in nodes(ast.ExceptHandler):
            self.assertIsNotNone(node.type, at(path, node))
            names = node.type.elts if isinstance(node.type, ast.Tuple) else [node.type]
            self.assertLessEqual({name.id for name in names}, own, at(path, node))

    def test_finally_assigns_literals_to_attributes(self):
        for path, node in nodes(ast.Try):
            for part in node.finalbody:
                self.assertIsInstance(part, ast.Assign, at(path, part))
                self.assertIsInstance(part.value, ast.Constant, at(path, part))
                self.assertIsInstance(part.targets[0], ast.Attribute, at(path, part))

    def test_what_is_changed_is_not_iterated_over(self):
        changes = ("append", "clear", "extend", "insert", "pop", "remove", "reverse", "setdefault", "update")
        for path, node in nodes(ast.For):
            over = {ast.unparse(part) for part in ast.walk(node.iter) if isinstance(part, (ast.Name, ast.Attribute))}
            for part in [part for row in node.body for part in ast.walk(row)]:
                if isinstance(part, ast.Subscript) and not isinstance(part.ctx, ast.Load):
                    self.assertNotIn(ast.unparse(part.value), over, at(path, part))
                if isinstance(part, ast.Call) and isinstance(part.func, ast.Attribute) and part.func.attr in changes:
                    self.assertNotIn(ast.unparse(part.func.value), over, at(path, part))

    def test_is_is_used_with_constants(self):
        for path, node in nodes(ast.Compare):
            for sign, right in zip(node.ops, node.comparators):
                if isinstance(sign, (ast.Is, ast.IsNot)):
                    self.assertIsInstance(right, ast.Constant, at(path, node))


class DoubleTest(unittest.TestCase):
    def test_lengths_and_texts(self):
        for path, node in nodes(ast.FunctionDef):
            last = node.body[-1]
            if node.name == "__len__":
                self.assertRegex(ast.unparse(last), r"^return len\(", at(path, node))
            if node.name in ("__repr__", "__str__"):
                self.assertTrue(isinstance(last, ast.Return), at(path, node))
            if node.name == "__init__":
                self.assertFalse([part for part in ast.walk(node) if isinstance(part, ast.Return)], at(path, node))

    def test_operators_have_plain_parameters(self):
        for path, made in nodes(ast.ClassDef):
            for part in made.body:
                if isinstance(part, ast.FunctionDef) and part.name.startswith("__") and part.name != "__init__":
                    self.assertFalse(part.args.defaults or part.args.vararg or part.args.kwonlyargs, at(path, part))
                    names = [name.arg for name in part.args.args[1:]]
                    self.assertIn(names, ([], ["other"], ["at"], ["x"], ["at", "worth"], ["letter"], ["line"]))
                if isinstance(part, ast.FunctionDef) and part.name == "__iter__":
                    self.assertRegex(ast.unparse(part.body[-1]), r"^(return iter\(self(\.\w+)+\)|raise TypeError)")

    def test_a_class_with_an_index_is_not_iterated_over_by_chance(self):
        for path, node in nodes(ast.ClassDef):
            names = {part.name for part in node.body if isinstance(part, ast.FunctionDef)}
            self.assertTrue("__getitem__" not in names or "__iter__" in names, at(path, node))


if __name__ == "__main__":
    unittest.main()
