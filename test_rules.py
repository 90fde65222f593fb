"""What can be seen of the language's rules and of the interface in the package's files, without running them."""

import ast
import builtins
import pathlib
import string
import unittest

FOLDER = pathlib.Path(__file__).parent / "granary"
FILES = sorted(path for path in FOLDER.rglob("*") if path.is_file() and "__pycache__" not in path.parts)
TREES = {path.stem: ast.parse(path.read_text("ascii")) for path in FILES if path.suffix == ".py"}
INTERFACE = {
    "errors": (
        "StoreError", "BadText", "BadName", "BadRow", "TooGreat", "Twice", "BadPlan", "Within", "BadNumber", "Gone",
    ),
    "texts": ("read", "written"),
    "names": ("checked",),
    "bounds": ("bounds",),
    "plans": ("all_plans", "cost", "best"),
    "doing": ("answer", "answer_by"),
    "statements": ("done_on",),
    "planning": ("plan_text", "read_plan"),
    "sights": ("is_in", "is_wider"),
    "indexes": ("Index",),
    "dealings": ("Dealing",),
    "versions": ("Store", "based"),
    "papers": ("followed",),
    "days": ("day_text", "read_day", "played"),
    "disks": ("Disk",),
    "logs": ("Log", "recovered"),
    "plain": ("Plain", "plain_of"),
    "judging": ("judged", "order_of"),
    "halls": ("Hall",),
}
ARGUMENTS = {
    "texts": {"read": "text", "written": "tree"},
    "names": {"checked": "tree, shapes, indexes=()"},
    "bounds": {"bounds": "cond, table"},
    "plans": {
        "all_plans": "tables, cond, shapes, indexes", "cost": "plan, counts",
        "best": "tables, cond, shapes, indexes, counts",
    },
    "doing": {"answer": "tree, plan, shapes, view", "answer_by": "tree, plan, shapes, indexes, view"},
    "statements": {"done_on": "tree, dealing"},
    "planning": {"plan_text": "plan", "read_plan": "text"},
    "sights": {"is_in": "row, fields, bounds", "is_wider": "one, other"},
    "papers": {"followed": "paper, content"},
    "days": {"day_text": "deeds", "read_day": "text", "played": "text, *, houses=3, askers=4"},
    "versions": {"based": "number, content"},
    "logs": {"recovered": "disk"},
    "plain": {"plain_of": "texts"},
    "judging": {"judged": "histories, tickets", "order_of": "histories"},
}
METHODS = {
    ("indexes", "Index"): {
        "__init__": "self", "add": "self, worth, key", "lose": "self, worth, key", "between": "self, low, high",
    },
    ("dealings", "Dealing"): {
        "row": "self, table, key", "version": "self, table, key", "rows": "self, table",
        "by_key": "self, table, low, high", "by_index": "self, table, field, low, high", "indexed": "self",
        "seen": "self", "count": "self, table", "shapes": "self", "writes": "self", "put": "self, table, row",
        "change": "self, table, row", "strike": "self, table, key", "make": "self, write",
        "saw": "self, table, bounds", "end": "self",
    },
    ("versions", "Store"): {
        "__init__": "self, *, first=0", "take": "self, number, writes", "shapes": "self, number",
        "indexed": "self, number", "keys": "self, table", "row": "self, table, key, number",
        "version": "self, table, key, number", "content": "self, number", "opened": "self, *, number=None",
        "clash": "self, dealing", "sweep": "self, number", "versions": "self",
    },
    ("disks", "Disk"): {
        "__init__": "self", "write": "self, unit", "settle": "self", "arm": "self, many", "fall": "self, cut",
        "units": "self",
    },
    ("logs", "Log"): {
        "__init__": "self, disk", "mark": "self, term, vote", "append": "self, record", "cut": "self, number",
        "take_whole": "self, number, term, content", "term": "self", "last": "self", "base": "self",
        "checkpoint": "self, number", "vote": "self", "term_of": "self, number", "has": "self, number",
        "records": "self, begin", "content": "self", "store": "self, *, number=None",
    },
    ("plain", "Plain"): {"__init__": "self", "tell": "self, text", "copy": "self"},
    ("halls", "Hall"): {
        "__init__": "self, *, houses=3, askers=4", "ask": "self, asker, text", "known": "self, house",
        "shown": "self, ticket", "paper": "self, ticket", "content": "self, house, number", "shaped": "self, house",
        "underway": "self, asker", "found": "self, ticket", "house_of": "self, asker", "count_tickets": "self",
        "turn": "self, asker, house", "arm": "self, house, many", "come": "self, at=0", "lose": "self, at=0",
        "takeover": "self, house", "beat": "self, house", "checkpoint": "self, house", "fall": "self, house",
        "rise": "self, house, *, cut=0", "letters": "self", "dealings": "self, asker", "log": "self, house",
        "leaders": "self", "compared": "self, house, text", "past": "self, house, table, key",
    },
}
LIBRARY = {
    "heapq": ("heappush", "heappop", "heapify", "heapreplace", "heappushpop"),
    "math": ("gcd", "lcm", "isqrt", "comb", "perm", "factorial"),
    "itertools": ("product", "combinations", "permutations"),
}
BUILTINS = (
    "len range enumerate zip min max sum abs sorted reversed int str bool bytes list tuple dict set frozenset "
    "isinstance ord repr any all divmod iter next map super "
    "Exception ValueError TypeError KeyError IndexError LookupError "
    "ZeroDivisionError ArithmeticError OverflowError RuntimeError NotImplementedError AttributeError StopIteration "
    "NotImplemented"
).split()
BARRED = (
    "register mro elements open input law version_info with_traceback add_note attrgetter breakpoint builtins compile "
    "copyright credits delattr dir eval exec exit gc getattr globals hasattr help id importlib license locals "
    "methodcaller os quit setattr type vars sys format format_map"
).split()
NODES = (ast.Global, ast.AsyncFor, ast.AsyncFunctionDef, ast.AsyncWith, ast.Await, ast.Div, ast.Import)


def bound_names(tree):
    """Every name that a file gives a meaning to, but methods and attributes."""
    methods = [part for node in ast.walk(tree) if isinstance(node, ast.ClassDef) for part in node.body]
    for node in ast.walk(tree):
        if isinstance(node, (ast.FunctionDef, ast.ClassDef)) and node not in methods:
            yield node.name
        elif isinstance(node, ast.arg):
            yield node.arg
        elif isinstance(node, ast.Name) and isinstance(node.ctx, ast.Store):
            yield node.id
        elif isinstance(node, ast.alias):
            yield node.asname or node.name


def defined(tree):
    """The names that a file defines at its top, by def, class or assignment."""
    for node in tree.body:
        if isinstance(node, (ast.FunctionDef, ast.ClassDef)):
            yield node.name
        elif isinstance(node, ast.Assign):
            yield node.targets[0].id


def imported(tree):
    """The names that a file imports."""
    return [alias.name for node in tree.body if isinstance(node, ast.ImportFrom) for alias in node.names]


class Files(unittest.TestCase):
    def test_nothing_else_stands_in_the_folder(self):
        for path in FILES:
            self.assertEqual(path.suffix, ".py", path)
            self.assertLessEqual(set(path.stem), set(string.ascii_lowercase + string.digits + "_"))
            self.assertFalse(path.name.startswith("test_"), path)

    def test_sizes_and_characters(self):
        for path in FILES:
            text = path.read_text("utf-8")
            self.assertLessEqual(set(text), set(chr(code) for code in range(32, 127)) | {"\n"}, path)
            self.assertLessEqual(len(text.splitlines()), 399, path)
            self.assertLessEqual(max(map(len, text.splitlines())), 120, path)

    def test_functions_are_small(self):
        for stem, tree in TREES.items():
            for node in ast.walk(tree):
                if isinstance(node, ast.FunctionDef):
                    self.assertLessEqual(node.end_lineno - node.lineno + 1, 40, (stem, node.name))


class Imports(unittest.TestCase):
    def imports(self, tree):
        return [node for node in ast.walk(tree) if isinstance(node, ast.ImportFrom)]

    def test_only_the_package_itself_from_the_very_file(self):
        for stem, tree in TREES.items():
            for node in self.imports(tree):
                self.assertEqual(node.level, 0, stem)
                for alias in node.names:
                    self.assertIsNone(alias.asname, stem)
                    if node.module in LIBRARY:
                        self.assertIn(alias.name, LIBRARY[node.module], stem)
                        continue
                    package, _, file = node.module.partition(".")
                    self.assertEqual(package, "granary", stem)
                    self.assertIn(alias.name, list(defined(TREES[file])), stem)

    def test_no_two_files_import_from_each_other(self):
        needs = {
            stem: {node.module.partition(".")[2] for node in self.imports(tree)} - {""} for stem, tree in TREES.items()
        }
        while needs:
            free = [stem for stem, others in needs.items() if not others & set(needs)]
            self.assertTrue(free, needs)
            for stem in free:
                del needs[stem]


class Names(unittest.TestCase):
    def test_no_name_of_a_builtin_and_no_barred_one(self):
        for stem, tree in TREES.items():
            for name in bound_names(tree):
                self.assertNotIn(name, dir(builtins), stem)
                self.assertNotIn(name, BARRED, stem)

    def test_a_name_is_bound_once_at_the_top(self):
        for stem, tree in TREES.items():
            names = list(defined(tree)) + imported(tree)
            self.assertEqual(len(names), len(set(names)), stem)

    def test_no_other_builtin_is_used(self):
        for stem, tree in TREES.items():
            own = set(bound_names(tree))
            for node in ast.walk(tree):
                if isinstance(node, ast.Name) and node.id not in own:
                    self.assertIn(node.id, BUILTINS, stem)

    def test_no_local_name_is_an_import_s_or_a_class_s(self):
        for stem, tree in TREES.items():
            tops = {node.name for node in tree.body if isinstance(node, ast.ClassDef)}
            tops |= set(imported(tree))
            for node in ast.walk(tree):
                if isinstance(node, ast.arg):
                    self.assertNotIn(node.arg, tops, stem)
                if isinstance(node, ast.Name) and isinstance(node.ctx, ast.Store):
                    self.assertNotIn(node.id, tops, stem)

    def test_statements_and_strings(self):
        for stem, tree in TREES.items():
            for node in ast.walk(tree):
                self.assertNotIsInstance(node, NODES, stem)
                if isinstance(node, ast.Constant):
                    self.assertNotIsInstance(node.value, (float, complex), stem)
                    if isinstance(node.value, str):
                        self.assertNotIn("%", node.value, stem)


def own_parts(body, kind):
    """{name: node} of what stands in a body itself, of some kind of definition."""
    return {node.name: node for node in body if isinstance(node, kind)}


def lacking(trees):
    """The names of the interface, of the files that are written, that aren't defined where it lists them."""
    names = []
    for stem in set(INTERFACE) & set(trees):
        here = own_parts(trees[stem].body, (ast.FunctionDef, ast.ClassDef))
        names += [f"{stem}.{name}" for name in INTERFACE[stem] if name not in here]
    for stem, name in METHODS:
        if stem in trees:
            own = own_parts(trees[stem].body, ast.ClassDef).get(name)
            here = own_parts(own.body if own else [], ast.FunctionDef)
            names += [f"{stem}.{name}.{method}" for method in METHODS[stem, name] if method not in here]
    return sorted(names)


class Interface(unittest.TestCase):
    def test_each_file_is_written(self):
        self.assertEqual(sorted(set(INTERFACE) - set(TREES)), [])

    def test_each_name_is_defined_in_its_file_and_each_method_in_its_class(self):
        self.assertEqual(lacking(TREES), [], "lacks where the interface lists it")

    def test_a_name_that_is_defined_elsewhere_is_told(self):
        text = (FOLDER / "versions.py").read_text("ascii")
        imported_one = text.replace("def based(", "def other(") + "\nfrom granary.tables import based\n"
        self.assertEqual(lacking({"versions": ast.parse(imported_one)}), ["versions.based"])
        renamed = text.replace("class Store:", "class Base:") + "\n\nclass Store(Base):\n    pass\n"
        listed = sorted(f"versions.Store.{method}" for method in METHODS["versions", "Store"])
        self.assertEqual(lacking({"versions": ast.parse(renamed)}), listed)
        for method in METHODS["versions", "Store"]:
            one = text.replace(f"    def {method}(", "    def other(")
            self.assertEqual(lacking({"versions": ast.parse(one)}), [f"versions.Store.{method}"])

    def test_arguments(self):
        for stem, functions in ARGUMENTS.items():
            here = own_parts(TREES[stem].body, ast.FunctionDef)
            for name, arguments in functions.items():
                self.assertEqual(ast.unparse(here[name].args), arguments, (stem, name))

    def test_arguments_of_methods(self):
        for (stem, name), methods in METHODS.items():
            here = own_parts(own_parts(TREES[stem].body, ast.ClassDef)[name].body, ast.FunctionDef)
            for method, arguments in methods.items():
                self.assertEqual(ast.unparse(here[method].args), arguments, (name, method))

    def test_values_of_a_store_are_set_when_it_is_created(self):
        made = own_parts(own_parts(TREES["versions"].body, ast.ClassDef)["Store"].body, ast.FunctionDef)["__init__"]
        stored = [node.attr for node in ast.walk(made) if isinstance(node, ast.Attribute)]
        self.assertLessEqual({"first", "newest"}, set(stored))


class Classes(unittest.TestCase):
    def test_no_name_is_a_method_and_an_attribute_of_one_class(self):
        for stem, tree in TREES.items():
            for node in tree.body:
                if isinstance(node, ast.ClassDef):
                    methods = {part.name for part in node.body if isinstance(part, ast.FunctionDef)}
                    stored = {part.attr for part in ast.walk(node)
                              if isinstance(part, ast.Attribute) and isinstance(part.ctx, ast.Store)}
                    self.assertFalse(methods & stored, (stem, node.name))

    def test_attributes_have_no_name_of_what_modifies(self):
        barred = ("items keys values pop update append clear extend insert remove reverse setdefault sort args encode "
                  "decode hex fromhex format").split()
        for stem, tree in TREES.items():
            for node in ast.walk(tree):
                if isinstance(node, ast.Attribute) and isinstance(node.ctx, ast.Store):
                    self.assertNotIn(node.attr, barred, stem)

    def test_stars_stand_over_names(self):
        for stem, tree in TREES.items():
            for node in ast.walk(tree):
                if isinstance(node, ast.Starred) and isinstance(node.ctx, ast.Load):
                    self.assertIsInstance(node.value, ast.Name, stem)
                if isinstance(node, ast.Dict):
                    self.assertNotIn(None, node.keys, stem)

    def test_nothing_that_a_method_called_keys_stands_in_the_way_of(self):
        for stem, tree in TREES.items():
            for node in ast.walk(tree):
                if isinstance(node, ast.Call):
                    self.assertNotIn(None, [keyword.arg for keyword in node.keywords], stem)
                    if isinstance(node.func, ast.Attribute):
                        self.assertNotEqual(node.func.attr, "keys", stem)

    def test_no_set_is_kept_in_an_attribute_or_iterated(self):
        for stem, tree in TREES.items():
            for node in ast.walk(tree):
                self.assertNotIsInstance(node, (ast.Set, ast.SetComp), stem)
                if isinstance(node, ast.Name):
                    self.assertNotIn(node.id, ("set", "frozenset"), stem)

    def test_errors_are_made_where_they_are_raised_and_caught_by_name(self):
        own = INTERFACE["errors"]
        for stem, tree in TREES.items():
            for node in ast.walk(tree):
                if isinstance(node, ast.Raise):
                    self.assertIn(node.exc.func.id, own, stem)
                if isinstance(node, ast.ExceptHandler):
                    self.assertIn(node.type.id, own, stem)

    def test_no_generators_no_decorators_no_annotations(self):
        barred = (ast.Yield, ast.YieldFrom, ast.GeneratorExp, ast.AnnAssign, ast.Nonlocal, ast.With, ast.NamedExpr)
        for stem, tree in TREES.items():
            for node in ast.walk(tree):
                self.assertNotIsInstance(node, barred, stem)
                if isinstance(node, (ast.FunctionDef, ast.ClassDef)):
                    self.assertEqual(node.decorator_list, [], stem)
                if isinstance(node, ast.FunctionDef):
                    self.assertIsNone(node.returns, stem)

    def test_methods_of_builtin_values(self):
        own = {part.name for tree in TREES.values() for node in ast.walk(tree) if isinstance(node, ast.ClassDef)
               for part in node.body if isinstance(part, ast.FunctionDef)}
        known = ("append clear copy count endswith extend find get index insert isalnum isalpha isdigit islower "
                 "isspace isupper items join ljust lower lstrip partition pop remove replace reverse rfind rjust "
                 "rpartition rsplit rstrip setdefault split splitlines startswith strip update upper values "
                 "zfill").split()
        for stem, tree in TREES.items():
            for node in ast.walk(tree):
                if isinstance(node, ast.Call) and isinstance(node.func, ast.Attribute):
                    self.assertTrue(node.func.attr in own or node.func.attr in known, (stem, node.func.attr))

    def test_views_are_iterated_on_the_spot(self):
        views = ("items", "values")
        for stem, tree in TREES.items():
            spots = [node.iter for node in ast.walk(tree) if isinstance(node, (ast.For, ast.comprehension))]
            spots += [part for node in ast.walk(tree) if isinstance(node, ast.Call) and isinstance(node.func, ast.Name)
                      and node.func.id in ("list", "tuple", "sorted", "sum", "enumerate", "zip") for part in node.args]
            for node in ast.walk(tree):
                if isinstance(node, ast.Call) and isinstance(node.func, ast.Attribute) and node.func.attr in views:
                    self.assertIn(node, spots, (stem, node.lineno))

    def test_no_keywords_for_methods_of_builtin_values(self):
        own = {part.name for tree in TREES.values() for node in tree.body if isinstance(node, ast.ClassDef)
               for part in node.body if isinstance(part, ast.FunctionDef)}
        for stem, tree in TREES.items():
            for node in ast.walk(tree):
                if isinstance(node, ast.Call) and isinstance(node.func, ast.Attribute) and node.keywords:
                    self.assertIn(node.func.attr, own, stem)


if __name__ == "__main__":
    unittest.main()
