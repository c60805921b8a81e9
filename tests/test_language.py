"""The files of the package keep to the small part of the language in which it is written."""

import ast
import builtins
import os
import re
import unittest

PACKAGE = os.path.join(os.path.dirname(os.path.abspath(__file__)), "..", "manrods")

LIBRARY = {
    "math": ("gcd", "lcm", "isqrt", "comb", "perm", "factorial"), "itertools": ("combinations", "permutations", "product")}
BUILTINS = set((
    "len range enumerate zip min max sum abs sorted reversed int str bool list tuple dict set isinstance ord repr any all"
    " divmod ValueError KeyError IndexError LookupError ZeroDivisionError TypeError").split())
METHODS = set((
    "append clear copy count endswith extend find get index insert isalnum isalpha isdigit islower isspace isupper items join"
    " keys ljust lower lstrip partition pop remove replace reverse rfind rjust rpartition rsplit rstrip setdefault split"
    " splitlines startswith strip update upper values zfill bit_length add discard").split())
WORDS_NOT_USED = set((
    "type typing enum Enum Flag Generic Protocol ABC namedtuple NamedTuple TypedDict abstractmethod dataclass overload"
    " contextmanager register mro elements open input law eval exec compile globals locals vars dir exit quit help license"
    " async await global lambda").split())
STATEMENTS = (
    ast.Assign, ast.AugAssign, ast.If, ast.While, ast.For, ast.Return, ast.Break, ast.Continue, ast.Pass, ast.Raise, ast.Expr,
    ast.FunctionDef, ast.ClassDef, ast.ImportFrom, ast.Try, ast.Delete, ast.Assert)
OTHERS = (ast.Div, ast.GeneratorExp, ast.Lambda, ast.NamedExpr, ast.Set, ast.SetComp, ast.Yield, ast.YieldFrom, ast.AnnAssign)
TAKERS = ("list", "tuple", "dict", "sorted", "sum", "any", "all", "enumerate", "zip", "min", "max", "reversed", "len")
AT_ONCE = ("range", "zip", "enumerate", "reversed", "items", "keys", "values")
CHANGING = ("append", "pop", "insert", "remove", "extend", "clear", "update", "reverse", "setdefault")


def files():
    return sorted(name for name in os.listdir(PACKAGE) if name != "__pycache__")


def text_of(name):
    with open(os.path.join(PACKAGE, name), encoding="utf-8") as file:
        return file.read()


def stored_names(tree):
    """All names that the file gives: of functions, classes, parameters, variables, attributes."""
    for node in ast.walk(tree):
        if isinstance(node, (ast.FunctionDef, ast.ClassDef)):
            yield node.name
        elif isinstance(node, ast.arg):
            yield node.arg
        elif isinstance(node, ast.Name) and isinstance(node.ctx, ast.Store):
            yield node.id


class Language(unittest.TestCase):

    def each_tree(self):
        return [(name, ast.parse(text_of(name))) for name in files()]

    def test_files(self):
        for name in files():
            self.assertRegex(name, r"^(__init__|[a-z][a-z0-9_]*)\.py$")
            text = text_of(name)
            self.assertTrue(all(" " <= sign <= "~" or sign == "\n" for sign in text), name)
            rows = text.split("\n")
            self.assertLessEqual(len(rows), 399, name)
            self.assertLessEqual(max(len(row) for row in rows), 120, name)

    def test_functions_are_short(self):
        for name, tree in self.each_tree():
            for node in ast.walk(tree):
                if isinstance(node, ast.FunctionDef):
                    self.assertLessEqual(node.end_lineno - node.lineno + 1, 40, (name, node.name))
                    self.assertEqual(node.decorator_list, [], (name, node.name))
                    self.assertIsNotNone(ast.get_docstring(node) or node.name == "__init__" or None, (name, node.name))

    def test_imports(self):
        for name, tree in self.each_tree():
            bound = []
            for node in ast.walk(tree):
                if not isinstance(node, ast.ImportFrom):
                    continue
                self.assertIn(node, tree.body)
                self.assertEqual(node.level, 0)
                for alias in node.names:
                    self.assertIsNone(alias.asname)
                    bound.append(alias.name)
                    if node.module in LIBRARY:
                        self.assertIn(alias.name, LIBRARY[node.module])
                        continue
                    self.assertTrue(node.module.startswith("manrods."), node.module)
                    own = ast.parse(text_of(node.module[len("manrods."):] + ".py"))
                    given = [part.name for part in own.body if isinstance(part, (ast.FunctionDef, ast.ClassDef))]
                    given += [part.targets[0].id for part in own.body if isinstance(part, ast.Assign)]
                    self.assertIn(alias.name, given)
            self.assertEqual(len(bound), len(set(bound)), name)
            used = [node.id for node in ast.walk(tree) if isinstance(node, ast.Name)]
            for word in bound:
                self.assertTrue(word in used, (name, word, "is not used"))
                self.assertNotIn(word, list(stored_names(tree)), name)

    def test_module_level(self):
        for name, tree in self.each_tree():
            for node in tree.body:
                self.assertIsInstance(node, (ast.Expr, ast.ImportFrom, ast.FunctionDef, ast.ClassDef, ast.Assign), name)
                if isinstance(node, ast.Expr):
                    self.assertIs(node, tree.body[0], name)
                if isinstance(node, ast.Assign):
                    self.assertEqual(len(node.targets), 1)
                    self.check_value(name, tree, node)

    def check_value(self, name, tree, node):
        """A plain value, or a dict of functions that are defined above it."""
        if not isinstance(node.value, ast.Dict) or not any(isinstance(part, ast.Name) for part in node.value.values):
            ast.literal_eval(node.value)
            return
        above = [part.name for part in tree.body if isinstance(part, ast.FunctionDef) and part.lineno < node.lineno]
        for key, value in zip(node.value.keys, node.value.values):
            self.assertIsInstance(ast.literal_eval(key), str, name)
            self.assertIn(value.id, above, name)

    def test_statements_and_expressions(self):
        for name, tree in self.each_tree():
            for node in ast.walk(tree):
                self.assertNotIsInstance(node, OTHERS, (name, getattr(node, "lineno", None)))
                if isinstance(node, ast.stmt):
                    self.assertIsInstance(node, STATEMENTS, (name, node.lineno))
                if isinstance(node, ast.Constant):
                    self.assertIsInstance(node.value, (int, str, type(None)), (name, node.lineno))
                    self.assertNotIn("%", str(node.value), (name, node.lineno))
                if isinstance(node, ast.Compare):
                    for sign, other in zip(node.ops, node.comparators):
                        if isinstance(sign, (ast.Is, ast.IsNot)):
                            self.assertIn(getattr(other, "value", 0), (None, True, False), (name, node.lineno))

    def test_iterated_at_once(self):
        for name, tree in self.each_tree():
            iterated = []
            for node in ast.walk(tree):
                if isinstance(node, (ast.For, ast.comprehension)):
                    iterated.append(node.iter)
                if isinstance(node, ast.Call) and isinstance(node.func, ast.Name) and node.func.id in TAKERS:
                    iterated.extend(node.args[:1])
                if isinstance(node, ast.Compare) and isinstance(node.ops[0], (ast.In, ast.NotIn)):
                    iterated.extend(node.comparators)
                if isinstance(node, ast.Assign) and isinstance(node.targets[0], ast.Name):
                    iterated.append(node.value)
            for node in ast.walk(tree):
                if isinstance(node, ast.Call) and getattr(node.func, "id", getattr(node.func, "attr", None)) in AT_ONCE:
                    self.assertIn(node, iterated, (name, node.lineno))

    def test_what_a_loop_goes_over_stays(self):
        for name, tree in self.each_tree():
            for loop in ast.walk(tree):
                if isinstance(loop, ast.For):
                    self.check_loop(name, loop)

    def check_loop(self, name, loop):
        over = loop.iter
        while isinstance(over, ast.Call) and getattr(over.func, "id", None) in ("enumerate", "zip", "reversed"):
            over = over.args[0]
        if isinstance(over, ast.Call) and isinstance(over.func, ast.Attribute):
            over = over.func.value
        told = ast.unparse(over)
        for node in ast.walk(loop):
            changed = []
            if isinstance(node, ast.Assign):
                changed = [part.value for part in node.targets if isinstance(part, ast.Subscript)]
            if isinstance(node, ast.AugAssign) and isinstance(node.target, ast.Subscript):
                changed = [node.target.value]
            if isinstance(node, ast.Delete):
                changed = [part.value for part in node.targets if isinstance(part, ast.Subscript)]
            if isinstance(node, ast.Call) and getattr(node.func, "attr", None) in CHANGING:
                changed = [node.func.value]
            self.assertNotIn(told, [ast.unparse(part) for part in changed], (name, node.lineno if changed else 0))

    def test_names(self):
        for name, tree in self.each_tree():
            functions = [node for node in ast.walk(tree) if isinstance(node, ast.FunctionDef)]
            names = [word for word in stored_names(tree) if word not in ("__init__", "__eq__")]
            given = set(names)
            for word in names:
                self.assertRegex(word, r"^(_|_?[A-Za-z][A-Za-z0-9_]*)$", name)
                self.assertFalse(hasattr(builtins, word), (name, word))
                self.assertNotIn(word, WORDS_NOT_USED, name)
            for node in ast.walk(tree):
                if isinstance(node, ast.ClassDef):
                    self.assertRegex(node.name, r"^[A-Z]", name)
                if isinstance(node, ast.ImportFrom):
                    given.update(alias.name for alias in node.names)
            for node in ast.walk(tree):
                if isinstance(node, ast.Name) and node.id not in given:
                    self.assertIn(node.id, BUILTINS, (name, node.lineno))
            top = [node.name for node in tree.body if isinstance(node, (ast.FunctionDef, ast.ClassDef))]
            self.assertEqual(len(top), len(set(top)), name)
            for node in functions:
                inner = [word for part in node.body for word in stored_names(part)]
                own = inner + [argument.arg for argument in node.args.args]
                for word in own:
                    self.assertNotIn(word, top, (name, node.name, word))

    def test_methods(self):
        own = set()
        for _, tree in self.each_tree():
            for node in ast.walk(tree):
                if isinstance(node, ast.ClassDef):
                    own.update(part.name for part in node.body if isinstance(part, ast.FunctionDef))
        for name, tree in self.each_tree():
            for node in ast.walk(tree):
                if isinstance(node, ast.Call) and isinstance(node.func, ast.Attribute):
                    self.assertIn(node.func.attr, METHODS | own, (name, node.lineno))

    def test_stars_in_calls(self):
        for name, tree in self.each_tree():
            for node in ast.walk(tree):
                if isinstance(node, ast.Call):
                    for part in node.args:
                        if isinstance(part, ast.Starred):
                            self.assertIsInstance(part.value, (ast.Name, ast.List, ast.Tuple), (name, node.lineno))
                    self.assertTrue(all(part.arg for part in node.keywords), (name, node.lineno))

    def test_methods_and_attributes_have_names_of_their_own(self):
        methods, attributes = {}, {}
        for name, tree in self.each_tree():
            for node in ast.walk(tree):
                if isinstance(node, ast.ClassDef):
                    found = [part.name for part in node.body if isinstance(part, ast.FunctionDef)]
                    self.assertEqual(len(found), len(set(found)), (name, node.name))
                    methods.update({word: name for word in found})
                if isinstance(node, ast.Attribute) and isinstance(node.ctx, ast.Store):
                    attributes[node.attr] = name
                    self.assertIsInstance(node.value, ast.Name, (name, node.lineno))
        self.assertEqual(sorted(set(methods) & set(attributes)), [])
        for name, tree in self.each_tree():
            for node in ast.walk(tree):
                if isinstance(node, ast.Attribute) and isinstance(node.ctx, ast.Load):
                    self.assertTrue(node.attr in attributes or node.attr in methods or node.attr in METHODS, (name, node.attr))

    def test_only_own_errors_are_caught(self):
        own = ("BadLine", "CanNot", "NoPlace", "NothingDone", "TooMuch", "Unfit")
        for name, tree in self.each_tree():
            for node in ast.walk(tree):
                if isinstance(node, ast.ExceptHandler):
                    self.assertIsInstance(node.type, ast.Name, (name, node.lineno))
                    self.assertIn(node.type.id, own, (name, node.lineno))
                if isinstance(node, ast.Raise):
                    self.assertIn(node.exc.func.id, own, (name, node.lineno))
                if isinstance(node, ast.Try):
                    self.assertEqual(node.finalbody, [], (name, node.lineno))

    def test_no_imports_in_a_ring(self):
        imports = {}
        for name, tree in self.each_tree():
            modules = [node.module for node in tree.body if isinstance(node, ast.ImportFrom)]
            imports[name] = [module[len("manrods."):] + ".py" for module in modules if module.startswith("manrods.")]
        done = []
        while len(done) < len(imports):
            free = [name for name in imports if name not in done and all(other in done for other in imports[name])]
            self.assertNotEqual(free, [], "files import from each other")
            done.extend(free)

    def test_words(self):
        for name in files():
            for word in ("type", "typing", "enum", "dataclass", "overload", "contextmanager"):
                self.assertIsNone(re.search(rf"\b{word}\b", text_of(name)), (name, word))


if __name__ == "__main__":
    unittest.main()
