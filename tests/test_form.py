"""The form of the package: what of its subset of the language can be told from the code alone."""

import ast
import builtins
import pathlib
import unittest

PACKAGE = pathlib.Path(__file__).resolve().parent.parent / "wholecommits"

CALLED = set("""len range enumerate zip min max sum abs sorted reversed int str bool list tuple dict set isinstance ord
repr any all divmod""".split())
VALUES = CALLED | {"ValueError", "KeyError", "IndexError", "LookupError", "TypeError"}
METHODS = set("""append clear copy count endswith extend find get index insert isalnum isalpha isdigit islower isspace
isupper items join keys ljust lower lstrip partition pop remove replace reverse rfind rjust rpartition rsplit rstrip
setdefault split splitlines startswith strip update upper values zfill bit_length""".split())
NEVER = set("""register mro elements open input law version_info with_traceback add_note attrgetter breakpoint builtins
compile copyright credits delattr dir eval exec exit gc globals help id importlib license locals methodcaller os quit
super type vars sys hash map next iter chr""".split())
STATEMENTS = (ast.FunctionDef, ast.ClassDef, ast.Return, ast.Delete, ast.Assign, ast.AugAssign, ast.For, ast.While,
              ast.If, ast.Raise, ast.Try, ast.Assert, ast.ImportFrom, ast.Expr, ast.Pass, ast.Break, ast.Continue)
NO_EXPRESSIONS = (ast.Lambda, ast.NamedExpr, ast.Set, ast.SetComp, ast.GeneratorExp, ast.Await, ast.Yield,
                  ast.YieldFrom)
DUNDERS = ("__init__", "__eq__")

INTERFACE = {
    "disk": {"Disk": "blocks reached write reach force calm power cut read lying waiting copy"},
    "log": {"formatted": None, "Log": "append room ring_size forced last force begin_at records"},
    "pages": {"Pages": "batch held dirty write_out force checkpoint record forced room in_use high many notes",
              "Batch": "get put give_page set_root set_last dropped take_page root last done changed"},
    "tree": {name: None for name in "look put take first_from walk all_spots depth pages_of is_sound".split()},
    "versions": {name: None for name in
                 "write_all take_version at range_at versions_of all_versions dict_at".split()},
    "transactions": {"Transaction": "stands_at get between put drop end is_open saw_keys saw_ranges wrote dealing"},
    "serial": {"Check": "opens last commits would_commit gives_up open_entries remembered could_ring copy"},
    "judges": {"Dealing": "__init__ __eq__",
               **{name: None for name in """sees many_orders has_seen is_serial_order is_ring first_failure ties
                  lost_updates serial_order ring worths_behind prefix""".split()}},
    "vacuum": {name: None for name in "needed is_kept_right harm takeable sweep".split()},
    "store": {"Store": """begin stands_at last lasting sweep vacuum debt get between versions put drop abort force
                        checkpoint commit commit_soon open_ones now open_snapshots dirty write_out disk ties_of_now""",
              "new_store": None},
    "histories": {"history_text": None, "read_history": None},
    "tongue": {"Program": "__init__ __eq__"},
    "running": {"Hand": "asks said give copy", "plain_run": None},
    "parsing": {"program_text": None, "read_program": None},
    "clients": {"played": None, "is_right_account": None},
    "desk": {"Desk": "tell", "tale": None},
    "recovery": {name: None for name in "pages_of meaning prefix_of commits_of".split()},
}


def trees():
    return [(path.stem, ast.parse(path.read_text())) for path in sorted(PACKAGE.glob("*.py"))]


def defined(tree):
    return {node.name: node for node in tree.body if isinstance(node, (ast.FunctionDef, ast.ClassDef))}


def names_bound(node):
    """The names that a node binds."""
    if isinstance(node, ast.Name) and isinstance(node.ctx, ast.Store):
        return [node.id]
    if isinstance(node, ast.arg):
        return [node.arg]
    if isinstance(node, (ast.FunctionDef, ast.ClassDef)):
        return [node.name]
    if isinstance(node, ast.ImportFrom):
        return [alias.name for alias in node.names]
    if isinstance(node, ast.ExceptHandler) and node.name:
        return [node.name]
    return []


class Form(unittest.TestCase):

    def test_files(self):
        self.assertTrue((PACKAGE / "__init__.py").is_file())
        for path in PACKAGE.iterdir():
            if path.name != "__pycache__":
                self.assertRegex(path.name, "^[a-z0-9_]+[.]py$")
        for path in PACKAGE.glob("*.py"):
            text = path.read_text()
            self.assertTrue(all(sign == "\n" or " " <= sign <= "~" for sign in text), path)
            lines = text.split("\n")
            self.assertLessEqual(len(lines), 399, path)
            self.assertLessEqual(max(len(line) for line in lines), 120, path)

    def test_functions_are_short(self):
        for name, tree in trees():
            for node in ast.walk(tree):
                if isinstance(node, ast.FunctionDef):
                    self.assertLessEqual(node.end_lineno - node.lineno + 1, 40, (name, node.name))

    def test_imports_go_one_way(self):
        uses = {}
        names = {name: defined(tree) for name, tree in trees()}
        constants = {name: [target.id for node in tree.body if isinstance(node, ast.Assign) for target in node.targets]
                     for name, tree in trees()}
        for name, tree in trees():
            imports = [node for node in ast.walk(tree) if isinstance(node, (ast.Import, ast.ImportFrom))]
            self.assertTrue(all(node in tree.body for node in imports))
            uses[name] = []
            for node in imports:
                self.assertIsInstance(node, ast.ImportFrom)
                package, module = node.module.split(".")
                self.assertEqual((package, node.level), ("wholecommits", 0))
                uses[name].append(module)
                for alias in node.names:
                    self.assertIsNone(alias.asname)
                    self.assertTrue(alias.name in names[module] or alias.name in constants[module], (name, alias.name))
        while uses:
            free = [name for name in uses if not uses[name]]
            self.assertTrue(free, uses)
            uses = {name: [module for module in uses[name] if module not in free] for name in uses if name not in free}

    def test_module_level(self):
        for name, tree in trees():
            self.assertIsNotNone(ast.get_docstring(tree), name)
            for node in tree.body[1:]:
                self.assertIsInstance(node, (ast.ImportFrom, ast.FunctionDef, ast.ClassDef, ast.Assign), name)
                if isinstance(node, ast.Assign):
                    self.assertEqual(len(node.targets), 1)
                    self.assertFalse([part for part in ast.walk(node.value) if isinstance(part, (ast.Call, ast.Name))])
            bound = [one for node in tree.body for one in names_bound(node)]
            self.assertEqual(len(bound), len(set(bound)), name)

    def test_statements_and_expressions(self):
        for name, tree in trees():
            for node in ast.walk(tree):
                place = (name, getattr(node, "lineno", 0))
                if isinstance(node, ast.stmt):
                    self.assertIsInstance(node, STATEMENTS, place)
                self.assertNotIsInstance(node, NO_EXPRESSIONS, place)
                self.assertFalse(getattr(node, "decorator_list", []), place)
                self.assertNotIsInstance(getattr(node, "value", None), (float, complex), place)
                if isinstance(node, (ast.BinOp, ast.AugAssign)):
                    self.assertNotIsInstance(node.op, (ast.Div, ast.MatMult), place)
                if isinstance(node, ast.Compare) and any(isinstance(op, (ast.Is, ast.IsNot)) for op in node.ops):
                    self.assertIn(ast.unparse(node.comparators[0]), ("None", "True", "False"), place)
                if isinstance(node, ast.Constant) and isinstance(node.value, str):
                    self.assertNotIn("%", node.value, place)

    def test_names(self):
        for name, tree in trees():
            imported = [alias.name for node in tree.body if isinstance(node, ast.ImportFrom) for alias in node.names]
            classes = [node.name for node in tree.body if isinstance(node, ast.ClassDef)]
            for node in ast.walk(tree):
                for bound in names_bound(node):
                    place = (name, node.lineno, bound)
                    self.assertNotIn(bound, NEVER, place)
                    self.assertTrue(not bound.startswith("__") or bound in DUNDERS, place)
                    if not isinstance(node, ast.FunctionDef):
                        self.assertFalse(hasattr(builtins, bound), place)
                    if isinstance(node, (ast.Name, ast.arg)):
                        self.assertNotIn(bound, imported + classes, place)
                if isinstance(node, ast.Name) and hasattr(builtins, node.id):
                    self.assertIn(node.id, VALUES, (name, node.lineno))

    def test_methods_called(self):
        own = [method.name for _, tree in trees() for node in tree.body if isinstance(node, ast.ClassDef)
               for method in node.body if isinstance(method, ast.FunctionDef)]
        for name, tree in trees():
            for node in ast.walk(tree):
                if isinstance(node, ast.Call) and isinstance(node.func, ast.Attribute):
                    self.assertIn(node.func.attr, METHODS | set(own), (name, node.lineno))
                    self.assertEqual(node.keywords, [], (name, node.lineno))

    def test_no_name_is_a_method_and_an_attribute(self):
        methods = set()
        stored = set()
        for _, tree in trees():
            for node in ast.walk(tree):
                if isinstance(node, ast.ClassDef):
                    methods |= {method.name for method in node.body if isinstance(method, ast.FunctionDef)}
                if isinstance(node, ast.Attribute) and isinstance(node.ctx, ast.Store):
                    stored.add(node.attr)
        self.assertEqual(methods & stored, set())
        self.assertEqual(stored & {"items", "keys", "values", "pop", "update", "append", "args", "format"}, set())

    def test_the_interface_is_defined_in_its_files(self):
        files = dict(trees())
        for name, wanted in INTERFACE.items():
            there = defined(files[name])
            for thing, methods in wanted.items():
                self.assertIn(thing, there, name)
                if methods is None:
                    self.assertIsInstance(there[thing], ast.FunctionDef)
                else:
                    found = [node.name for node in there[thing].body if isinstance(node, ast.FunctionDef)]
                    self.assertEqual([method for method in methods.split() if method not in found], [], thing)


if __name__ == "__main__":
    unittest.main()
