"""What can be seen of the language's rules and of the interface in the package's files, without running them."""

import ast
import builtins
import pathlib
import string
import unittest

FOLDER = pathlib.Path(__file__).parent / "granary"
FILES = sorted(path for path in FOLDER.rglob("*") if path.is_file() and "__pycache__" not in path.parts)
TREES = {path.stem: ast.parse(path.read_text("ascii")) for path in FILES if path.suffix == ".py"}
INTERFACE = {
    "errors": (
        "StoreError", "BadText", "BadName", "BadRow", "TooGreat", "Twice", "BadPlan", "Within", "BadNumber", "Gone",
    ),
    "texts": ("read", "written"),
    "names": ("checked",),
    "bounds": ("bounds",),
    "plans": ("all_plans", "cost", "best"),
    "doing": ("answer", "answer_by"),
    "statements": ("done_on",),
    "planning": ("plan_text", "read_plan"),
    "sights": ("is_in", "is_wider"),
    "indexes": ("Index",),
    "dealings": ("Dealing",),
    "versions": ("Store",),
}
ARGUMENTS = {
    "texts": {"read": "text", "written": "tree"},
    "names": {"checked": "tree, shapes, indexes=()"},
    "bounds": {"bounds": "cond, table"},
    "plans": {
        "all_plans": "tables, cond, shapes, indexes", "cost": "plan, counts",
        "best": "tables, cond, shapes, indexes, counts",
    },
    "doing": {"answer": "tree, plan, shapes, view", "answer_by": "tree, plan, shapes, indexes, view"},
    "statements": {"done_on": "tree, dealing"},
    "planning": {"plan_text": "plan", "read_plan": "text"},
    "sights": {"is_in": "row, fields, bounds", "is_wider": "one, other"},
}
METHODS = {
    ("indexes", "Index"): {
        "__init__": "self", "add": "self, worth, key", "lose": "self, worth, key", "between": "self, low, high",
    },
    ("dealings", "Dealing"): {
        "row": "self, table, key", "version": "self, table, key", "rows": "self, table",
        "by_key": "self, table, low, high", "by_index": "self, table, field, low, high", "indexed": "self",
        "seen": "self", "count": "self, table", "shapes": "self", "writes": "self", "put": "self, table, row",
        "change": "self, table, row", "strike": "self, table, key", "make": "self, write",
        "saw": "self, table, bounds", "end": "self",
    },
    ("versions", "Store"): {
        "__init__": "self, *, first=0", "take": "self, number, writes", "shapes": "self, number",
        "indexed": "self, number", "row": "self, table, key, number", "version": "self, table, key, number",
        "opened": "self, *, number=None",
    },
}
LIBRARY = {
    "heapq": ("heappush", "heappop", "heapify", "heapreplace", "heappushpop"),
    "math": ("gcd", "lcm", "isqrt", "comb", "perm", "factorial"),
    "itertools": ("product", "combinations", "permutations"),
}
BUILTINS = (
    "len range enumerate zip min max sum abs sorted reversed int str bool bytes list tuple dict set frozenset "
    "isinstance ord repr any all divmod iter next map super "
    "Exception ValueError TypeError KeyError IndexError LookupError "
    "ZeroDivisionError ArithmeticError OverflowError RuntimeError NotImplementedError AttributeError StopIteration "
    "NotImplemented"
).split()
BARRED = (
    "register mro elements open input law version_info with_traceback add_note attrgetter breakpoint builtins compile "
    "copyright credits delattr dir eval exec exit gc getattr globals hasattr help id importlib license locals "
    "methodcaller os quit setattr type vars sys format format_map"
).split()
NODES = (ast.Global, ast.AsyncFor, ast.AsyncFunctionDef, ast.AsyncWith, ast.Await, ast.Div, ast.Import)


def bound_names(tree):
    """Every name that a file gives a meaning to, but methods and attributes."""
    methods = [part for node in ast.walk(tree) if isinstance(node, ast.ClassDef) for part in node.body]
    for node in ast.walk(tree):
        if isinstance(node, (ast.FunctionDef, ast.ClassDef)) and node not in methods:
            yield node.name
        elif isinstance(node, ast.arg):
            yield node.arg
        elif isinstance(node, ast.Name) and isinstance(node.ctx, ast.Store):
            yield node.id
        elif isinstance(node, ast.alias):
            yield node.asname or node.name


def defined(tree):
    """The names that a file defines at its top, by def, class or assignment."""
    for node in tree.body:
        if isinstance(node, (ast.FunctionDef, ast.ClassDef)):
            yield node.name
        elif isinstance(node, ast.Assign):
            yield node.targets[0].id


def imported(tree):
    """The names that a file imports."""
    return [alias.name for node in tree.body if isinstance(node, ast.ImportFrom) for alias in node.names]


class Files(unittest.TestCase):
    def test_nothing_else_stands_in_the_folder(self):
        for path in FILES:
            self.assertEqual(path.suffix, ".py", path)
            self.assertLessEqual(set(path.stem), set(string.ascii_lowercase + string.digits + "_"))
            self.assertFalse(path.name.startswith("test_"), path)

    def test_sizes_and_characters(self):
        for path in FILES:
            text = path.read_text("utf-8")
            self.assertLessEqual(set(text), set(chr(code) for code in range(32, 127)) | {"\n"}, path)
            self.assertLessEqual(len(text.splitlines()), 399, path)
            self.assertLessEqual(max(map(len, text.splitlines())), 120, path)

    def test_functions_are_small(self):
        for stem, tree in TREES.items():
            for node in ast.walk(tree):
                if isinstance(node, ast.FunctionDef):
                    self.assertLessEqual(node.end_lineno - node.lineno + 1, 40, (stem, node.name))


class Imports(unittest.TestCase):
    def imports(self, tree):
        return [node for node in ast.walk(tree) if isinstance(node, ast.ImportFrom)]

    def test_only_the_package_itself_from_the_very_file(self):
        for stem, tree in TREES.items():
            for node in self.imports(tree):
                self.assertEqual(node.level, 0, stem)
                for alias in node.names:
                    self.assertIsNone(alias.asname, stem)
                    if node.module in LIBRARY:
                        self.assertIn(alias.name, LIBRARY[node.module], stem)
                        continue
                    package, _, file = node.module.partition(".")
                    self.assertEqual(package, "granary", stem)
                    self.assertIn(alias.name, list(defined(TREES[file])), stem)

    def test_no_two_files_import_from_each_other(self):
        needs = {
            stem: {node.module.partition(".")[2] for node in self.imports(tree)} - {""} for stem, tree in TREES.items()
        }
        while needs:
            free = [stem for stem, others in needs.items() if not others & set(needs)]
            self.assertTrue(free, needs)
            for stem in free:
                del needs[stem]


class Names(unittest.TestCase):
    def test_no_name_of_a_builtin_and_no_barred_one(self):
        for stem, tree in TREES.items():
            for name in bound_names(tree):
                self.assertNotIn(name, dir(builtins), stem)
                self.assertNotIn(name, BARRED, stem)

    def test_a_name_is_bound_once_at_the_top(self):
        for stem, tree in TREES.items():
            names = list(defined(tree)) + imported(tree)
            self.assertEqual(len(names), len(set(names)), stem)

    def test_no_other_builtin_is_used(self):
        for stem, tree in TREES.items():
            own = set(bound_names(tree))
            for node in ast.walk(tree):
                if isinstance(node, ast.Name) and node.id not in own:
                    self.assertIn(node.id, BUILTINS, stem)

    def test_no_local_name_is_an_import_s_or_a_class_s(self):
        for stem, tree in TREES.items():
            tops = {node.name for node in tree.body if isinstance(node, ast.ClassDef)}
            tops |= set(imported(tree))
            for node in ast.walk(tree):
                if isinstance(node, ast.arg):
                    self.assertNotIn(node.arg, tops, stem)
                if isinstance(node, ast.Name) and isinstance(node.ctx, ast.Store):
                    self.assertNotIn(node.id, tops, stem)

    def test_statements_and_strings(self):
        for stem, tree in TREES.items():
            for node in ast.walk(tree):
                self.assertNotIsInstance(node, NODES, stem)
                if isinstance(node, ast.Constant):
                    self.assertNotIsInstance(node.value, (float, complex), stem)
                    if isinstance(node.value, str):
                        self.assertNotIn("%", node.value, stem)


class Interface(unittest.TestCase):
    def test_each_name_is_defined_in_its_file(self):
        for stem, names in INTERFACE.items():
            here = [node.name for node in TREES[stem].body if isinstance(node, (ast.FunctionDef, ast.ClassDef))]
            for name in names:
                self.assertIn(name, here)

    def test_arguments(self):
        for stem, functions in ARGUMENTS.items():
            here = [node for node in TREES[stem].body if isinstance(node, ast.FunctionDef)]
            found = {node.name: ast.unparse(node.args) for node in here}
            for name, arguments in functions.items():
                self.assertEqual(found[name], arguments)

    def test_methods_stand_in_the_class_itself(self):
        for (stem, name), methods in METHODS.items():
            own = [node for node in TREES[stem].body if isinstance(node, ast.ClassDef) and node.name == name]
            found = {node.name: ast.unparse(node.args) for node in own[0].body if isinstance(node, ast.FunctionDef)}
            for method, arguments in methods.items():
                self.assertEqual(found[method], arguments, (name, method))


class Classes(unittest.TestCase):
    def test_no_name_is_a_method_and_an_attribute_of_one_class(self):
        for stem, tree in TREES.items():
            for node in tree.body:
                if isinstance(node, ast.ClassDef):
                    methods = {part.name for part in node.body if isinstance(part, ast.FunctionDef)}
                    stored = {part.attr for part in ast.walk(node)
                              if isinstance(part, ast.Attribute) and isinstance(part.ctx, ast.Store)}
                    self.assertFalse(methods & stored, (stem, node.name))

    def test_attributes_have_no_name_of_what_modifies(self):
        barred = ("items keys values pop update append clear extend insert remove reverse setdefault sort args encode "
                  "decode hex fromhex format").split()
        for stem, tree in TREES.items():
            for node in ast.walk(tree):
                if isinstance(node, ast.Attribute) and isinstance(node.ctx, ast.Store):
                    self.assertNotIn(node.attr, barred, stem)

    def test_stars_stand_over_names(self):
        for stem, tree in TREES.items():
            for node in ast.walk(tree):
                if isinstance(node, ast.Starred) and isinstance(node.ctx, ast.Load):
                    self.assertIsInstance(node.value, ast.Name, stem)
                if isinstance(node, ast.Dict):
                    self.assertNotIn(None, node.keys, stem)

    def test_no_keywords_for_methods_of_builtin_values(self):
        own = {part.name for tree in TREES.values() for node in tree.body if isinstance(node, ast.ClassDef)
               for part in node.body if isinstance(part, ast.FunctionDef)}
        for stem, tree in TREES.items():
            for node in ast.walk(tree):
                if isinstance(node, ast.Call) and isinstance(node.func, ast.Attribute) and node.keywords:
                    self.assertIn(node.func.attr, own, stem)


if __name__ == "__main__":
    unittest.main()
