"""The rules of the Python subset that can be seen file by file."""

import ast
import builtins
import pathlib
import re
import unittest

PACKAGE = pathlib.Path(__file__).resolve().parent.parent / "saidanew"
BUILTINS = set("""len range enumerate zip min max sum abs sorted reversed int str bool list tuple dict set isinstance
    ord repr any all divmod iter next map property staticmethod classmethod super NotImplemented
    Exception ValueError TypeError KeyError IndexError LookupError ZeroDivisionError StopIteration""".split())
METHODS = set("""append clear copy count endswith extend find get index insert isalnum isalpha isdigit islower isspace
    isupper items join keys ljust lower lstrip partition pop remove replace reverse rfind rjust rpartition rsplit rstrip
    setdefault split splitlines startswith strip update upper values zfill bit_length
    title capitalize swapcase casefold center expandtabs removeprefix removesuffix rindex isascii isdecimal isnumeric
    istitle isidentifier isprintable""".split())
SPECIAL = set("__init__ __eq__ __repr__ __str__ __len__ __enter__ __exit__ __call__ __iter__".split())
WORDS = re.compile(r"\b(typing|enum|Enum|Flag|Generic|Protocol|ABC|namedtuple|abstractmethod)\b"
                   r"|dataclass|overload|contextmanager|_wall|_WallAttr")
CHANGING = set("append clear extend insert pop remove reverse setdefault update sort add discard".split())
NOWHERE = set("register mro elements open input law globals locals vars dir eval exec id type hash format".split())
BARRED = (ast.Global, ast.AsyncFunctionDef, ast.Await, ast.AsyncFor, ast.AsyncWith, ast.Div, ast.MatMult, ast.GeneratorExp,
          ast.Import)


def files():
    return sorted(PACKAGE.rglob("*.py"))


def parsed(path):
    return ast.parse(path.read_text())


def bound_names(tree):
    found = set()
    for node in ast.walk(tree):
        if isinstance(node, (ast.FunctionDef, ast.ClassDef)):
            found.add(node.name)
        elif isinstance(node, ast.arg):
            found.add(node.arg)
        elif isinstance(node, ast.Name) and isinstance(node.ctx, ast.Store):
            found.add(node.id)
        elif isinstance(node, ast.ImportFrom):
            found.update(alias.name for alias in node.names)
        elif isinstance(node, ast.ExceptHandler) and node.name:
            found.add(node.name)
    return found


class Language(unittest.TestCase):

    def test_the_package_has_files_of_python_alone(self):
        for path in PACKAGE.rglob("*"):
            if "__pycache__" not in path.parts and not path.is_dir():
                self.assertRegex(path.name, r"^[a-z0-9_]+\.py$")

    def test_sizes_and_characters(self):
        for path in files():
            text = path.read_text()
            with self.subTest(path.name):
                self.assertLessEqual(len(text.split("\n")), 399)
                self.assertRegex(text, r"\A[ -~\n]*\Z")
                self.assertLessEqual(max(len(line) for line in text.split("\n")), 120)
                self.assertIsNone(WORDS.search(text))
            for node in ast.walk(parsed(path)):
                if isinstance(node, ast.FunctionDef):
                    with self.subTest(path.name, function=node.name):
                        self.assertLessEqual(node.end_lineno - node.lineno + 1, 40)
                if isinstance(node, ast.Constant) and isinstance(node.value, str):
                    self.assertNotIn("%", node.value)

    def test_statements_and_expressions(self):
        for path in files():
            for node in ast.walk(parsed(path)):
                with self.subTest(path.name, line=getattr(node, "lineno", 0)):
                    self.assertNotIsInstance(node, BARRED)
                    if isinstance(node, ast.Constant):
                        self.assertNotIsInstance(node.value, (float, complex))
                    if isinstance(node, ast.FunctionDef):
                        decorators = [ast.unparse(one) for one in node.decorator_list]
                        self.assertTrue(set(decorators) <= {"property", "staticmethod", "classmethod"}, decorators)
                        if node.name.startswith("__"):
                            self.assertIn(node.name, SPECIAL)
                    if isinstance(node, ast.Compare):
                        for sign, side in zip(node.ops, node.comparators):
                            if isinstance(sign, (ast.Is, ast.IsNot)):
                                self.assertIn(ast.unparse(side), ("None", "True", "False"))

    def test_module_level(self):
        for path in files():
            for node in parsed(path).body:
                with self.subTest(path.name, line=node.lineno):
                    is_text = isinstance(node, ast.Expr) and isinstance(node.value, ast.Constant)
                    is_rest = isinstance(node, (ast.ImportFrom, ast.FunctionDef, ast.ClassDef, ast.Assign))
                    self.assertTrue(is_text or is_rest)

    def test_imports_name_the_very_file_and_make_no_ring(self):
        needs = {}
        for path in files():
            module = "saidanew." + path.stem
            needs[module] = []
            for node in ast.walk(parsed(path)):
                if isinstance(node, ast.ImportFrom) and node.module.startswith("saidanew."):
                    source = parsed(PACKAGE / (node.module.split(".")[1] + ".py"))
                    own = [one.name for one in source.body if isinstance(one, (ast.FunctionDef, ast.ClassDef))]
                    own += [one.targets[0].id for one in source.body if isinstance(one, ast.Assign)]
                    for alias in node.names:
                        self.assertIn(alias.name, own)
                        self.assertIsNone(alias.asname)
                    needs[module].append(node.module)
                elif isinstance(node, ast.ImportFrom):
                    self.assertIn(node.module, ("heapq", "math", "itertools", "collections", "__future__"))
        while needs:
            free = [module for module, wanted in needs.items() if not any(one in needs for one in wanted)]
            self.assertTrue(free, needs)
            for module in free:
                del needs[module]

    def test_names(self):
        for path in files():
            tree = parsed(path)
            bound = bound_names(tree)
            imports_and_classes = {node.name for node in ast.walk(tree) if isinstance(node, ast.ClassDef)}
            imports_and_classes |= {a.name for n in ast.walk(tree) if isinstance(n, ast.ImportFrom) for a in n.names}
            with self.subTest(path.name):
                self.assertEqual(bound & (BUILTINS | NOWHERE | set(dir(builtins)) - {"_"}), set())
            for node in ast.walk(tree):
                if isinstance(node, ast.Name) and isinstance(node.ctx, ast.Load):
                    with self.subTest(path.name, line=node.lineno, name=node.id):
                        self.assertIn(node.id, bound | BUILTINS)
                if isinstance(node, ast.Name) and isinstance(node.ctx, ast.Store) or isinstance(node, ast.arg):
                    name = node.id if isinstance(node, ast.Name) else node.arg
                    with self.subTest(path.name, line=node.lineno, name=name):
                        self.assertNotIn(name, imports_and_classes)

    def test_names_of_properties_methods_and_attributes(self):
        properties, methods, attributes = set(), set(), set()
        for path in files():
            for node in ast.walk(parsed(path)):
                if isinstance(node, ast.FunctionDef) and node.decorator_list:
                    properties.add(node.name)
                if isinstance(node, ast.ClassDef):
                    own = {one.name for one in node.body if isinstance(one, ast.FunctionDef) and not one.decorator_list}
                    methods |= own
                if isinstance(node, ast.Attribute) and isinstance(node.ctx, ast.Store):
                    attributes.add(node.attr)
        self.assertEqual(properties & (methods | attributes), set())
        self.assertEqual(methods & attributes, set())
        self.assertEqual(attributes & set("items keys values pop update append clear extend insert remove reverse setdefault "
                                          "sort args encode decode hex fromhex format format_map mro".split()), set())

    def test_methods_are_known_ones(self):
        own = set()
        for path in files():
            for node in ast.walk(parsed(path)):
                if isinstance(node, ast.ClassDef):
                    own.update(one.name for one in node.body if isinstance(one, ast.FunctionDef))
        for path in files():
            for node in ast.walk(parsed(path)):
                if isinstance(node, ast.Call) and isinstance(node.func, ast.Attribute):
                    with self.subTest(path.name, line=node.lineno):
                        self.assertIn(node.func.attr, METHODS | own)

    def test_methods_are_called_where_they_stand(self):
        own = {one.name for path in files() for node in ast.walk(parsed(path)) if isinstance(node, ast.ClassDef)
               for one in node.body if isinstance(one, ast.FunctionDef) and not one.decorator_list}
        for path in files():
            tree = parsed(path)
            called = {id(node.func) for node in ast.walk(tree) if isinstance(node, ast.Call)}
            for node in ast.walk(tree):
                if isinstance(node, ast.Attribute) and node.attr in own | METHODS - {"count", "index", "title", "find", "get", "copy"}:
                    with self.subTest(path.name, line=node.lineno):
                        self.assertIn(id(node), called)

    def test_loops_do_not_change_what_they_go_over(self):
        for path in files():
            for loop in ast.walk(parsed(path)):
                if isinstance(loop, ast.For):
                    over = {ast.unparse(node) for node in ast.walk(loop.iter) if isinstance(node, (ast.Name, ast.Attribute))}
                    for statement in loop.body + loop.orelse:
                        for thing in changed_in(statement):
                            with self.subTest(path.name, line=loop.lineno):
                                self.assertNotIn(thing, over)

    def test_properties_and_comparisons_change_nothing_but_what_they_made(self):
        functions, methods, first = {}, {}, []
        for path in files():
            for node in ast.walk(parsed(path)):
                if isinstance(node, ast.ClassDef):
                    for one in node.body:
                        if isinstance(one, ast.FunctionDef):
                            methods.setdefault(one.name, []).append(one)
                            if one.decorator_list or one.name in ("__eq__", "__len__"):
                                first.append(one)
                elif isinstance(node, ast.FunctionDef):
                    functions.setdefault(node.name, []).append(node)
        waiting, seen = list(first), set()
        while waiting:
            function = waiting.pop()
            if id(function) in seen:
                continue
            seen.add(id(function))
            made = made_in(function)
            for thing in changed_in(function):
                with self.subTest(function.name, thing=thing):
                    self.assertIn(thing, made)
            for node in ast.walk(function):
                if isinstance(node, ast.Call) and isinstance(node.func, ast.Name):
                    waiting += functions.get(node.func.id, [])
                elif isinstance(node, ast.Call) and isinstance(node.func, ast.Attribute):
                    waiting += methods.get(node.func.attr, [])
        self.assertGreater(len(seen), 20)


def changed_in(part):
    """What is changed in a part of the code, by its items, its attributes or a method."""
    for node in ast.walk(part):
        if isinstance(node, ast.Call) and isinstance(node.func, ast.Attribute) and node.func.attr in CHANGING:
            yield ast.unparse(node.func.value)
        elif isinstance(node, (ast.Subscript, ast.Attribute)) and isinstance(node.ctx, (ast.Store, ast.Del)):
            yield ast.unparse(node.value)


def made_in(function):
    """The names of what a function makes itself, whatever it is assigned."""
    values = {}
    for node in ast.walk(function):
        if isinstance(node, ast.Assign):
            for target in node.targets:
                values.setdefault(ast.unparse(target), []).append(is_made(node.value))
        elif isinstance(node, (ast.For, ast.comprehension)):
            for name in ast.walk(node.target):
                values.setdefault(ast.unparse(name), []).append(False)
    return {name for name, made in values.items() if all(made)} - {one.arg for one in function.args.args}


def is_made(value):
    if isinstance(value, ast.Call):
        return isinstance(value.func, ast.Name) and value.func.id in ("list", "dict", "set", "sorted")
    return isinstance(value, (ast.List, ast.Dict, ast.ListComp, ast.DictComp))


if __name__ == "__main__":
    unittest.main()
