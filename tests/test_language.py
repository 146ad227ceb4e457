"""Those rules of ../shared/LANGUAGE.md that a look at the files can show: L1, L2, L10 and L14."""

import ast
import pathlib
import unittest

PACKAGE = pathlib.Path(__file__).resolve().parent.parent / "hoarseheath"

LIBRARY = {
    "heapq": {"heappush", "heappop", "heapify", "heapreplace", "heappushpop"},
    "math": {"gcd", "lcm", "isqrt", "comb", "perm", "factorial"},
    "itertools": {"product", "combinations", "permutations", "chain", "accumulate", "pairwise", "islice", "zip_longest"},
    "collections": {"defaultdict", "deque"},
}


class Language(unittest.TestCase):
    def files(self):
        return sorted(PACKAGE.glob("*.py"))

    def test_the_folder_holds_python_files_alone(self):
        self.assertIn(PACKAGE / "__init__.py", self.files())
        others = [path.name for path in PACKAGE.iterdir() if path.suffix != ".py" and path.name != "__pycache__"]
        self.assertEqual(others, [])

    def test_signs_and_sizes(self):
        for path in self.files():
            text = path.read_bytes().decode("ascii")
            rows = text.split("\n")
            with self.subTest(path.name):
                self.assertEqual([sign for sign in text if not " " <= sign <= "~" and sign != "\n"], [])
                self.assertLess(len(rows), 400)
                self.assertLessEqual(max(len(row) for row in rows), 120)

    def test_functions_of_forty_lines_at_most(self):
        for path in self.files():
            for node in ast.walk(ast.parse(path.read_text())):
                if isinstance(node, ast.FunctionDef):
                    self.assertLessEqual(node.end_lineno - node.lineno + 1, 40, (path.name, node.name))

    def test_imports(self):
        for path in self.files():
            for node in ast.walk(ast.parse(path.read_text())):
                self.assertNotIsInstance(node, ast.Import, path.name)
                if isinstance(node, ast.ImportFrom) and node.module in LIBRARY:
                    self.assertLessEqual({name.name for name in node.names}, LIBRARY[node.module], path.name)
                elif isinstance(node, ast.ImportFrom) and node.module != "__future__":
                    self.assertEqual((node.level, node.module.split(".")[0]), (0, "hoarseheath"), path.name)


if __name__ == "__main__":
    unittest.main()
