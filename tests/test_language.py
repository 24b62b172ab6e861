"""What of LANGUAGE.md can be seen in the files of the package, and the names of the interface."""

import ast
import builtins
import inspect
import pathlib
import re
import unittest

import bulkload.courses
import bulkload.disks
import bulkload.errors
import bulkload.expressions
import bulkload.formats
import bulkload.jobs
import bulkload.loaders
import bulkload.loads
import bulkload.looks
import bulkload.pieces
import bulkload.rejects
import bulkload.schemas
import bulkload.staging
import bulkload.tables
import bulkload.units
import bulkload.values

ROOT = pathlib.Path(__file__).resolve().parent.parent
FILES = sorted((ROOT / "bulkload").rglob("*.py"))
BUILTINS = """len range enumerate zip min max sum abs sorted reversed int str bool bytes list tuple dict set frozenset
    isinstance ord repr any all divmod pow Exception ValueError TypeError KeyError IndexError LookupError
    ZeroDivisionError ArithmeticError OverflowError RuntimeError NotImplementedError AttributeError StopIteration
    NotImplemented iter next property staticmethod classmethod super""".split()
METHODS = """append clear copy count endswith extend find get index insert isalnum isalpha isdigit islower isspace
    isupper items join keys ljust lower lstrip partition pop remove replace reverse rfind rjust rpartition rsplit
    rstrip setdefault split splitlines startswith strip update upper values zfill bit_length title capitalize swapcase
    casefold center expandtabs removeprefix removesuffix rindex isascii isdecimal isnumeric istitle isidentifier
    isprintable translate""".split()
SPECIAL = ("__init__", "__eq__", "__repr__", "__str__", "__len__", "__contains__", "__iter__")
NEVER = "register mro elements open input law version_info with_traceback add_note".split()
WORDS = re.compile(r"\b(type|typing|typing_extensions|enum|Enum|IntEnum|StrEnum|Flag|IntFlag|Generic|Protocol|ABC"
                   r"|ABCMeta|namedtuple|NamedTuple|TypedDict|TYPE_CHECKING|abstractmethod|_wall|_WallAttr)\b"
                   r"|dataclass|overload|contextmanager")
BARRED = (ast.AsyncFunctionDef, ast.AsyncFor, ast.AsyncWith, ast.Await, ast.Import, ast.Div, ast.Global,
          ast.AnnAssign, ast.GeneratorExp, ast.Yield, ast.YieldFrom, ast.Lambda)


def trees():
    return [(path, ast.parse(path.read_text())) for path in FILES]


def functions_of(tree):
    return [node for node in ast.walk(tree) if isinstance(node, ast.FunctionDef)]


def handlers_of(tree):
    return [node for node in ast.walk(tree) if isinstance(node, ast.ExceptHandler)]


def is_builtin(name):
    """The tests with doctest leave a _ among the builtins."""
    return name != "_" and hasattr(builtins, name)


def docstrings_of(tree):
    """The nodes of the docstrings."""
    holders = [node for node in ast.walk(tree) if isinstance(node, (ast.Module, ast.ClassDef, ast.FunctionDef))]
    return [node.body[0].value for node in holders
            if isinstance(node.body[0], ast.Expr) and isinstance(node.body[0].value, ast.Constant)]


def bound_in(function):
    """The parameters and local variables of a function."""
    rules = function.args
    names = [arg.arg for arg in rules.posonlyargs + rules.args + rules.kwonlyargs + [rules.vararg, rules.kwarg] if arg]
    return names + [node.id for node in ast.walk(function) if isinstance(node, ast.Name)
                    and isinstance(node.ctx, ast.Store)]


class LanguageTest(unittest.TestCase):
    def test_files(self):
        """L1, L10, L14."""
        for path in (ROOT / "bulkload").rglob("*"):
            if "__pycache__" not in path.parts and path.is_file():
                self.assertRegex(path.name, r"^([a-z0-9_]+)\.py$")
        for path in FILES:
            text = path.read_text()
            self.assertRegex(text, r"^[ -~\n]*\n\Z", path)
            self.assertLessEqual(text.count("\n"), 399, path)
            self.assertLessEqual(max(map(len, text.split("\n"))), 120, path)
            for function in functions_of(ast.parse(text)):
                self.assertLessEqual(function.end_lineno - function.lineno + 1, 40, (path, function.name))

    def test_imports(self):
        """L2, L16: only names from the file of the package that defines them, and not in a circle."""
        defined = {}
        needs = {}
        for path, tree in trees():
            module = "bulkload." + path.stem
            defined[module] = [node.name for node in tree.body if isinstance(node, (ast.FunctionDef, ast.ClassDef))]
            defined[module] += [node.targets[0].id for node in tree.body if isinstance(node, ast.Assign)]
            needs[module] = [node for node in ast.walk(tree) if isinstance(node, ast.ImportFrom)]
        for module, nodes in needs.items():
            for node in nodes:
                self.assertEqual((node.level, [alias.asname for alias in node.names]), (0, [None] * len(node.names)))
                for alias in node.names:
                    self.assertIn(alias.name, defined[node.module], module)
        below = {module: {node.module for node in nodes} for module, nodes in needs.items()}
        while below:
            free = [module for module in below if not below[module]]
            self.assertTrue(free, below)
            below = {module: below[module].difference(free) for module in below if module not in free}

    def test_nodes(self):
        """What this package does without."""
        for path, tree in trees():
            for node in ast.walk(tree):
                self.assertNotIsInstance(node, BARRED, (path, getattr(node, "lineno", 0)))
                if isinstance(node, ast.Constant):
                    self.assertNotIsInstance(node.value, (float, complex), path)

    def test_errors(self):
        """L19, as far as this package goes: only own errors are caught, by name, and all are made on the spot."""
        for path, tree in trees():
            for node in ast.walk(tree):
                if isinstance(node, ast.Try):
                    self.assertEqual((node.orelse, node.finalbody, len(node.handlers)), ([], [], 1), path)
                    handler = node.handlers[0]
                    self.assertTrue(issubclass(getattr(bulkload.errors, handler.type.id), bulkload.errors.BulkError))
                    if handler.name is not None:
                        # Of the error only its attributes are read.
                        uses = [use for use in ast.walk(handler) if isinstance(use, ast.Name) and use.id == handler.name]
                        read = [use.value for use in ast.walk(handler) if isinstance(use, ast.Attribute)]
                        self.assertTrue(all(use in read for use in uses), path)
                if isinstance(node, ast.Raise):
                    self.assertIsNone(node.cause, path)
                    if node.exc is None:
                        self.assertTrue(any(node in handler.body for handler in handlers_of(tree)), path)
                    else:
                        self.assertIsInstance(node.exc, ast.Call, path)
                        self.assertTrue(hasattr(bulkload.errors, node.exc.func.id), path)

    def test_classes(self):
        """L5, L18: plain methods and properties, and no name for a method and an attribute."""
        methods, attributes, properties = set(), set(), set()
        for path, tree in trees():
            for function in functions_of(tree):
                self.assertIn([getattr(node, "id", None) for node in function.decorator_list], ([], ["property"]), path)
                properties.update(function.name for _ in function.decorator_list)
            for owner in [node for node in ast.walk(tree) if isinstance(node, ast.ClassDef)]:
                self.assertIn(owner, tree.body, path)
                self.assertEqual((owner.decorator_list, owner.keywords), ([], []), path)
                for node in owner.body:
                    self.assertTrue(isinstance(node, ast.FunctionDef) or node is owner.body[0], (path, owner.name))
                methods.update(node.name for node in owner.body if isinstance(node, ast.FunctionDef))
            attributes.update(node.attr for node in ast.walk(tree)
                              if isinstance(node, ast.Attribute) and isinstance(node.ctx, ast.Store))
        self.assertEqual(methods & attributes, set())
        self.assertEqual(properties & (methods - properties | attributes), set())
        self.assertEqual(properties & set(dir(str) + dir(list) + dir(dict) + dir(int) + dir(bytes)), set())
        self.assertEqual(attributes & set(dir(str) + dir(list) + dir(dict) + dir(int)) - {"title", "index"}, set())

    def test_types(self):
        """L8: type(x) stands beside a class by its name."""
        for path, tree in trees():
            calls = [node for node in ast.walk(tree) if isinstance(node, ast.Call)
                     and isinstance(node.func, ast.Name) and node.func.id == "type"]
            sides = {id(node.left): node for node in ast.walk(tree) if isinstance(node, ast.Compare)}
            for call in calls:
                compare = sides[id(call)]
                self.assertIsInstance(compare.ops[0], (ast.Eq, ast.NotEq), path)
                self.assertIn(compare.comparators[0].id, ("int", "str", "bool", "tuple"), path)
            names = [node for node in ast.walk(tree) if isinstance(node, ast.Name) and node.id == "type"]
            self.assertEqual(names, [call.func for call in calls], path)

    def test_changes_in_loops(self):
        """L23: what a loop goes over is not changed in it, as far as its name shows it."""
        changing = ("append", "pop", "clear", "extend", "insert", "remove", "setdefault", "update")
        for path, tree in trees():
            for loop in [node for node in ast.walk(tree) if isinstance(node, ast.For)]:
                over = {ast.unparse(node) for node in ast.walk(loop.iter) if isinstance(node, (ast.Name, ast.Attribute))}
                over -= {"range", "len", "zip", "enumerate", "list", "min", "self"}
                for node in [inner for row in loop.body for inner in ast.walk(row)]:
                    if isinstance(node, ast.Call) and isinstance(node.func, ast.Attribute) and node.func.attr in changing:
                        self.assertNotIn(ast.unparse(node.func.value), over, (path, loop.lineno))
                    if isinstance(node, ast.Subscript) and isinstance(node.ctx, (ast.Store, ast.Del)):
                        self.assertNotIn(ast.unparse(node.value), over, (path, loop.lineno))

    def test_identity(self):
        """L20: is stands beside None, True and False."""
        for path, tree in trees():
            for node in ast.walk(tree):
                if isinstance(node, ast.Compare) and isinstance(node.ops[0], (ast.Is, ast.IsNot)):
                    self.assertIsInstance(node.comparators[0], ast.Constant, path)
                    self.assertIn(repr(node.comparators[0].value), ("None", "True", "False"), path)

    def test_module_level(self):
        """L3, L15."""
        for path, tree in trees():
            names = []
            for node in tree.body[1:]:
                self.assertIsInstance(node, (ast.ImportFrom, ast.FunctionDef, ast.ClassDef, ast.Assign), path)
                names += [alias.name for alias in node.names] if isinstance(node, ast.ImportFrom) else []
                names += [node.targets[0].id] if isinstance(node, ast.Assign) else []
                names += [node.name] if isinstance(node, (ast.FunctionDef, ast.ClassDef)) else []
            self.assertEqual(len(names), len(set(names)), path)
            classes = [node.name for node in tree.body if isinstance(node, ast.ClassDef)]
            imports = [node for node in tree.body if isinstance(node, ast.ImportFrom)]
            taken = classes + [alias.name for node in imports for alias in node.names]
            for function in functions_of(tree):
                for name in bound_in(function):
                    self.assertNotIn(name, taken, (path, function.name))
                    self.assertFalse(is_builtin(name), (path, function.name, name))
            for name in names:
                self.assertFalse(is_builtin(name), (path, name))

    def test_names(self):
        """L8, L12, L17, L25."""
        own = {function.name for _, tree in trees() for function in functions_of(tree)}
        for path, tree in trees():
            for node in ast.walk(tree):
                if isinstance(node, ast.Name) and is_builtin(node.id):
                    self.assertIn(node.id, BUILTINS + ["type"], path)
                if isinstance(node, ast.Call) and isinstance(node.func, ast.Attribute):
                    self.assertTrue(node.func.attr in METHODS or node.func.attr in own, (path, node.func.attr))
                for name in [getattr(node, field, None) for field in ("id", "attr", "arg", "name")]:
                    if isinstance(name, str):
                        self.assertNotIn(name, NEVER, path)
                        self.assertTrue(name in SPECIAL or not name.startswith("__"), (path, name))

    def test_strings(self):
        """L17, L27."""
        for path, tree in trees():
            docstrings = docstrings_of(tree)
            for node in ast.walk(tree):
                if isinstance(node, ast.Constant) and isinstance(node.value, str) and node not in docstrings:
                    self.assertNotIn("\u0025", node.value, path)
                    self.assertIsNone(WORDS.search(node.value), (path, node.value))
                if isinstance(node, ast.Name) and node.id != "type":
                    self.assertIsNone(WORDS.search(node.id), (path, node.id))

    def test_keywords_of_builtins(self):
        """L7: where a class has __eq__, any, all and the like take lists."""
        for path, tree in trees():
            for node in ast.walk(tree):
                if isinstance(node, ast.Call) and isinstance(node.func, ast.Name) and node.func.id in BUILTINS:
                    self.assertEqual([word.arg for word in node.keywords], [], (path, node.lineno))


class InterfaceTest(unittest.TestCase):
    listed = {
        bulkload.values: {"is_kind": "(value)", "is_value": "(kind, value)", "are_alike": "(one, other)",
                          "convert": "(kind, text)", "show": "(kind, value)"},
        bulkload.formats: {"Delimited": "(*, mark=',', quote='\"', null='', names=None)", "Fixed": "(columns)",
                           "records": "(form, text)", "names_of": "(form, text)",
                           "written": "(form, rows, *, names=None)"},
        bulkload.pieces: {"summary": "(form, piece)", "joined": "(one, other)", "records_in": "(form, whole)"},
        bulkload.expressions: {"is_expression": "(value, names)", "is_condition": "(value, names)",
                               "evaluate": "(expression, names, fields, number)",
                               "holds": "(condition, names, fields, number)", "used": "(value)"},
        bulkload.schemas: {"Column": "(title, kind, *, nullable=False, default=None)",
                           "Table": "(title, columns, key, *, uniques=(), references=(), checks=(), tallies=())",
                           "Schema": "(tables)", "truth": "(condition, row)"},
        bulkload.tables: {"Database": "(schema)"},
        bulkload.jobs: {"Target": "(place, columns, *, condition=('always',), rule='insert')",
                        "Job": "(form, targets, *, size=10, most_rejects=None, strict=False, skip_first=0, "
                               "at_most=None)",
                        "check_job": "(schema, job)"},
        bulkload.units: {"cut_units": "(schema, job, text)"},
        bulkload.loads: {"load": "(database, job, text)", "trial": "(database, job, text, *, without=())",
                         "Result": None},
        bulkload.rejects: {"write_rejects": "(rejects)", "read_rejects": "(string)", "source_of": "(rejects)"},
        bulkload.disks: {"Disk": "(files=None, *, head='', room=100000)"},
        bulkload.loaders: {"Loader": "(disk, schema, job, name)", "view": "(disk, schema)", "View": None,
                           "give_up": "(disk, schema, name)"},
        bulkload.staging: {"Staging": "(schema, job, text, cuts)"},
        bulkload.looks: {"load_order": "(schema)", "blame": "(result, number)",
                         "influence": "(database, job, text, number)"},
        bulkload.courses: {"course_of": "(database, job, text)", "fault_in": "(database, job, text, course)",
                           "outcomes_told": "(database, job, text, course)",
                           "rows_told": "(database, job, text, course)"},
    }
    shared = {"rows": "(self, place)", "row": "(self, place, key)", "key_of": "(self, place, row)",
              "last_number": "(self, sequence)", "version": None, "schema": None}
    methods = {
        bulkload.formats.Delimited: {"with_names": "(self, names)"},
        bulkload.schemas.Schema: {"table_of": "(self, place)", "tally_titles": "(self)", "titles": None,
                                  "__contains__": "(self, title)"},
        bulkload.tables.Database: {**shared, "snapshot": "(self)"},
        bulkload.tables.Snapshot: shared,
        bulkload.loads.Result: {**dict.fromkeys(("outcomes", "status", "counts", "rejects", "discards", "stopped")),
                                "outcome": "(self, number)", "__len__": "(self)"},
        bulkload.disks.Disk: {"write": "(self, name, text)", "sync": "(self, name)", "cut": "(self, name, length)",
                              "drop": "(self, name)", "swap": "(self, text)", "read": "(self, name)",
                              "files": "(self)", "head": None, "writes": "(self)", "lost": "(self, kept=None)"},
        bulkload.loaders.Loader: {**dict.fromkeys(("position", "waiting", "status", "counts", "rejects", "discards")),
                                  "feed": "(self, text)", "finish": "(self)"},
        bulkload.loaders.View: dict.fromkeys(("name", "status", "position", "counts", "rejects", "discards",
                                              "database")),
        bulkload.staging.Staging: {"__len__": "(self)", "part": "(self, k)", "state": "(self, k)", "work": "(self, k)",
                                   "seen": "(self, k)", "prepared": "(self, k)", "ready": "(self)",
                                   "result": "(self, database)"},
    }

    def test_listed_names(self):
        for module, names in self.listed.items():
            for name, parameters in names.items():
                value = getattr(module, name)
                self.assertEqual(value.__module__, module.__name__, name)
                if parameters is not None:
                    self.assertEqual(str(inspect.signature(value)), parameters, name)

    def test_listed_methods(self):
        """Each stands in the class itself; None is that of a property."""
        for owner, names in self.methods.items():
            self.assertEqual(owner.__bases__, (object,))
            for name, parameters in names.items():
                value = vars(owner)[name]
                if parameters is None:
                    self.assertIsInstance(value, property, name)
                else:
                    self.assertEqual(str(inspect.signature(value)), parameters, name)


if __name__ == "__main__":
    unittest.main()
