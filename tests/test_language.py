"""Those rules of LANGUAGE.md that are plain to see in a file: its signs, size, words and imports."""

import ast
import pathlib
import re
import unittest

PACKAGE = pathlib.Path(__file__).resolve().parent.parent / "wipeways"
BARRED = re.compile(
    r"\b(type|typing|typing_extensions|enum|Enum|IntEnum|StrEnum|Flag|IntFlag|Generic|Protocol|ABC|ABCMeta"
    r"|namedtuple|NamedTuple|TypedDict|TYPE_CHECKING|abstractmethod)\b|dataclass|overload|contextmanager"
)


def files():
    return sorted(path for path in PACKAGE.iterdir() if path.name != "__pycache__")


class TestLanguage(unittest.TestCase):

    def test_the_folder_holds_python_files_alone(self):
        for path in files():
            with self.subTest(file=path.name):
                self.assertRegex(path.name, r"\A[a-z0-9_]+\.py\Z")

    def test_signs(self):
        for path in files():
            with self.subTest(file=path.name):
                self.assertRegex(path.read_text(encoding="utf-8"), r"\A[ -~\n]*\Z")

    def test_size(self):
        for path in files():
            text = path.read_text(encoding="utf-8")
            with self.subTest(file=path.name):
                self.assertLessEqual(len(text.splitlines()), 399)
                self.assertLessEqual(max(len(line) for line in text.splitlines()), 120)
            for node in ast.walk(ast.parse(text)):
                if isinstance(node, ast.FunctionDef):
                    with self.subTest(file=path.name, function=node.name):
                        self.assertLessEqual(node.end_lineno - node.lineno + 1, 40)

    def test_barred_words(self):
        for path in files():
            with self.subTest(file=path.name):
                self.assertIsNone(BARRED.search(path.read_text(encoding="utf-8")))

    def test_imports(self):
        for path in files():
            for node in ast.walk(ast.parse(path.read_text(encoding="utf-8"))):
                with self.subTest(file=path.name):
                    self.assertNotIsInstance(node, ast.Import)
                    if isinstance(node, ast.ImportFrom):
                        self.assertEqual(node.level, 0)
                        self.assertRegex(node.module, r"\Awipeways\.[a-z0-9_]+\Z")


if __name__ == "__main__":
    unittest.main()
