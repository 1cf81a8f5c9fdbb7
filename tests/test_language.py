"""Those rules of LANGUAGE.md that are plain to see in a file: its signs, size, words, imports and names."""

import ast
import builtins
import pathlib
import re
import unittest

PACKAGE = pathlib.Path(__file__).resolve().parent.parent / "wipeways"
BARRED = re.compile(
    r"\b(type|typing|typing_extensions|enum|Enum|IntEnum|StrEnum|Flag|IntFlag|Generic|Protocol|ABC|ABCMeta"
    r"|namedtuple|NamedTuple|TypedDict|TYPE_CHECKING|abstractmethod)\b|dataclass|overload|contextmanager"
)

# Of L8, and of L25 the methods of its first list.
BUILTINS = set((
    "len range enumerate zip min max sum abs sorted reversed int str bool bytes list tuple dict set frozenset "
    "isinstance ord repr any all divmod Exception ValueError TypeError KeyError IndexError LookupError "
    "ZeroDivisionError ArithmeticError OverflowError RuntimeError NotImplementedError AttributeError StopIteration "
    "NotImplemented super"
).split())
METHODS = set((
    "append clear copy count endswith extend find get index insert isalnum isalpha isdigit islower isspace isupper "
    "items join keys ljust lower lstrip partition pop remove replace reverse rfind rjust rpartition rsplit rstrip "
    "setdefault split splitlines startswith strip update upper values zfill bit_length add discard"
).split())
STATEMENTS = (
    ast.Assign, ast.AugAssign, ast.If, ast.While, ast.For, ast.Return, ast.Break, ast.Continue, ast.Pass, ast.Raise,
    ast.Assert, ast.Delete, ast.Try, ast.Expr, ast.FunctionDef, ast.ClassDef, ast.ImportFrom,
)
# Which file defines which functions and classes, and with how many arguments.
INTERFACE = {
    "names": {"is_name": 1, "is_box": 1, "in_record": 2},
    "words": {"is_program": 1, "words_in": 1, "def_of": 2, "row_of": 2, "boxes_in": 1},
    "places": {"places_of": 2, "word_at": 2, "behind": 2, "first_place": 2, "inside": 3, "out_of": 3},
    "texts": {"show_row": 1, "show_program": 1, "read_program": 1},
    "runs": {"run": 3},
    "tables": {"sheet_of": 2},
    "papers": {"paper_of": 1, "is_let_by": 1},
    "checker": {"is_paper": 2, "lets_by": 2},
    "ways": {"way_left": 1},
    "inplace": {"in_place": 1},
    "codes": {"is_code": 2, "run_code": 2, "code_holds": 3},
    "laying": {"coded": 2},
    "asking": {"asked_behind": 2},
    "wiping": {"put_in": 2, "wipes_do": 2, "wiped": 1},
    "apart": {"ways_apart": 2},
    "windows": {"turned": 2, "shorter": 1},
}
CLASSES = {
    "errors": {"WipeError", "NoText", "TooLong", "NoCode", "NoTurn", "NoRow", "NoAnswer"},
    "desk": {"Desk"},
}
NO_VALUES = (ast.Div, ast.Set, ast.Lambda, ast.Await, ast.NamedExpr, ast.Yield, ast.YieldFrom)


def files():
    return sorted(path for path in PACKAGE.iterdir() if path.name != "__pycache__")


def trees():
    return {path.name: ast.parse(path.read_text(encoding="utf-8")) for path in files()}


def nodes(kind):
    """All nodes of that kind, each with the name of its file."""
    return [(name, node) for name, tree in trees().items() for node in ast.walk(tree) if isinstance(node, kind)]


def around_each(kind):
    """All nodes of that kind, each with the name of its file and the node in which it stands."""
    return [
        (name, node, around) for name, tree in trees().items() for around in ast.walk(tree)
        for node in ast.iter_child_nodes(around) if isinstance(node, kind)
    ]


def called(node):
    """The name by which a function is called, or a method; None of what is no call."""
    if not isinstance(node, ast.Call):
        return None
    return node.func.id if isinstance(node.func, ast.Name) else getattr(node.func, "attr", None)


def bound_in(tree):
    """The names that are given a meaning within functions."""
    bound = {node.id for node in ast.walk(tree) if isinstance(node, ast.Name) and isinstance(node.ctx, ast.Store)}
    return bound | {node.arg for node in ast.walk(tree) if isinstance(node, ast.arg)}


def imported_in(tree):
    return {alias.asname or alias.name for node in tree.body if isinstance(node, ast.ImportFrom) for alias in node.names}


def defined_in(tree, kind):
    return {node.name for node in ast.walk(tree) if isinstance(node, kind)}


class TestInterface(unittest.TestCase):

    def test_each_function_is_defined_in_its_file(self):
        for name, functions in INTERFACE.items():
            found = {node.name: len(node.args.args) for node in trees()[name + ".py"].body if isinstance(node, ast.FunctionDef)}
            for function, arguments in functions.items():
                with self.subTest(file=name, function=function):
                    self.assertEqual(found.get(function), arguments)

    def test_each_class_is_defined_in_its_file(self):
        for name, classes in CLASSES.items():
            with self.subTest(file=name):
                found = {node.name: node for node in trees()[name + ".py"].body if isinstance(node, ast.ClassDef)}
                self.assertEqual(set(found), classes)
        methods = [node.name for node in found["Desk"].body if isinstance(node, ast.FunctionDef)]
        self.assertIn("say", methods)


class TestLanguage(unittest.TestCase):

    def test_the_folder_holds_python_files_alone(self):
        for path in files():
            with self.subTest(file=path.name):
                self.assertRegex(path.name, r"\A[a-z0-9_]+\.py\Z")

    def test_signs(self):
        for path in files():
            with self.subTest(file=path.name):
                self.assertRegex(path.read_text(encoding="utf-8"), r"\A[ -~\n]*\Z")

    def test_size(self):
        for path in files():
            text = path.read_text(encoding="utf-8")
            with self.subTest(file=path.name):
                self.assertLessEqual(len(text.splitlines()), 399)
                self.assertLessEqual(max(len(line) for line in text.splitlines()), 120)
            for node in ast.walk(ast.parse(text)):
                if isinstance(node, ast.FunctionDef):
                    with self.subTest(file=path.name, function=node.name):
                        self.assertLessEqual(node.end_lineno - node.lineno + 1, 40)

    def test_barred_words(self):
        for path in files():
            with self.subTest(file=path.name):
                self.assertIsNone(BARRED.search(path.read_text(encoding="utf-8")))

    def test_imports(self):
        for path in files():
            for node in ast.walk(ast.parse(path.read_text(encoding="utf-8"))):
                with self.subTest(file=path.name):
                    self.assertNotIsInstance(node, ast.Import)
                    if isinstance(node, ast.ImportFrom):
                        self.assertEqual(node.level, 0)
                        self.assertRegex(node.module, r"\Awipeways\.[a-z0-9_]+\Z")

    def test_imports_name_the_file_that_defines(self):
        all_trees = trees()
        for name, node in nodes(ast.ImportFrom):
            source = all_trees[node.module.split(".")[1] + ".py"]
            own = {target.id for part in source.body if isinstance(part, ast.Assign) for target in part.targets}
            own |= defined_in(source, (ast.FunctionDef, ast.ClassDef))
            for alias in node.names:
                with self.subTest(file=name, name=alias.name):
                    self.assertIn(alias.name, own)

    def test_imports_stand_in_no_ring(self):
        needs = {name: set() for name in trees()}
        for name, node in nodes(ast.ImportFrom):
            needs[name].add(node.module.split(".")[1] + ".py")
        while needs:
            free = [name for name in needs if not needs[name] & set(needs)]
            self.assertNotEqual(free, [], needs)
            for name in free:
                del needs[name]

    def test_imports_and_classes_keep_their_meaning(self):
        for name, tree in trees().items():
            with self.subTest(file=name):
                taken = imported_in(tree) | defined_in(tree, ast.ClassDef)
                self.assertEqual(bound_in(tree) & taken, set())
                self.assertEqual(imported_in(tree) & defined_in(tree, (ast.FunctionDef, ast.ClassDef)), set())

    def test_each_import_is_used(self):
        for name, tree in trees().items():
            with self.subTest(file=name):
                used = {node.id for node in ast.walk(tree) if isinstance(node, ast.Name)}
                self.assertLessEqual(imported_in(tree), used)

    def test_names(self):
        for name, tree in trees().items():
            named = bound_in(tree) | defined_in(tree, (ast.FunctionDef, ast.ClassDef)) - {"__init__"}
            for one in sorted(named):
                with self.subTest(file=name, name=one):
                    self.assertFalse(one.startswith("_"))
                    self.assertFalse(hasattr(builtins, one))
                    self.assertNotIn(one, ("open", "input", "law", "elements", "register", "mro", "type"))

    def test_builtins(self):
        for name, node in nodes(ast.Name):
            with self.subTest(file=name, name=node.id, line=node.lineno):
                if hasattr(builtins, node.id):
                    self.assertIn(node.id, BUILTINS)

    def test_statements_and_values(self):
        for name, node in nodes(ast.stmt):
            with self.subTest(file=name, line=node.lineno):
                self.assertIsInstance(node, STATEMENTS)
        for name, node in nodes(NO_VALUES):
            with self.subTest(file=name):
                self.fail(ast.dump(node))
        for name, node in nodes(ast.Constant):
            with self.subTest(file=name, line=node.lineno):
                self.assertIn(type(node.value), (int, str, bool, type(None)))
                self.assertNotIn("%", str(node.value))

    def test_sets_are_sorted_or_counted_on_the_spot(self):
        for name, node, around in around_each(ast.Call):
            if called(node) in ("set", "frozenset"):
                with self.subTest(file=name, line=node.lineno):
                    self.assertIn(called(around), ("sorted", "len"))
        for name, node in nodes(ast.SetComp):
            with self.subTest(file=name, line=node.lineno):
                self.fail("a set comprehension")

    def test_what_is_gone_through_at_once(self):
        users = ("list", "tuple", "dict", "sorted", "sum", "any", "all", "enumerate", "zip", "reversed")
        for name, node, around in around_each(ast.Call):
            if called(node) in ("zip", "enumerate", "reversed", "range", "items", "keys", "values"):
                with self.subTest(file=name, line=node.lineno):
                    loops = isinstance(around, (ast.For, ast.comprehension)) and around.iter == node
                    self.assertTrue(loops or called(around) in users)

    def test_module_level(self):
        for name, tree in trees().items():
            for node in tree.body:
                with self.subTest(file=name, line=node.lineno):
                    plain = isinstance(node, (ast.ImportFrom, ast.FunctionDef, ast.ClassDef))
                    text = isinstance(node, ast.Expr) and isinstance(node.value, ast.Constant)
                    if not plain and not text:
                        self.assertIsInstance(node, ast.Assign)
                        self.assertEqual(len(node.targets), 1)
                        ast.literal_eval(node.value)

    def test_names_at_module_level_are_bound_once(self):
        for name, tree in trees().items():
            bound = [alias.name for node in tree.body if isinstance(node, ast.ImportFrom) for alias in node.names]
            bound += [node.name for node in tree.body if isinstance(node, (ast.FunctionDef, ast.ClassDef))]
            bound += [node.targets[0].id for node in tree.body if isinstance(node, ast.Assign)]
            with self.subTest(file=name):
                self.assertEqual(sorted(bound), sorted(set(bound)))

    def test_escapes_and_comparisons(self):
        for path in files():
            with self.subTest(file=path.name):
                self.assertIsNone(re.search(r"\\[^nt\\'\"]", path.read_text(encoding="utf-8")))
        for name, node in nodes(ast.Compare):
            for op, other in zip(node.ops, node.comparators):
                if isinstance(op, (ast.Is, ast.IsNot)):
                    with self.subTest(file=name, line=node.lineno):
                        self.assertIn(other.value, (None, True, False))

    def test_methods(self):
        own = {part.name for _, node in nodes(ast.ClassDef) for part in node.body if isinstance(part, ast.FunctionDef)}
        attributes = {
            node.attr for _, node in nodes(ast.Attribute)
            if isinstance(node.value, ast.Name) and node.value.id == "self" and isinstance(node.ctx, ast.Store)
        }
        self.assertEqual(own & attributes, set())
        for name, node in nodes(ast.Attribute):
            with self.subTest(file=name, line=node.lineno, name=node.attr):
                self.assertIn(node.attr, own | attributes | METHODS)


if __name__ == "__main__":
    unittest.main()
