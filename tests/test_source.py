"""Some of the rules of LANGUAGE.md that can be read off the package's files at once."""

import ast
import pathlib
import unittest

PACKAGE = pathlib.Path(__file__).resolve().parent.parent / "duepairs"
LIBRARY = {"heapq", "math", "itertools", "collections"}
NOT_USED = {"register", "mro", "elements", "open", "input", "law", "version_info", "type", "eval",
            "exec", "globals", "locals", "vars", "dir", "id", "help", "compile", "hash", "filter",
            "float", "complex", "object", "round", "print", "chr"}
STATEMENTS_NOT_USED = (ast.Global, ast.AsyncFunctionDef, ast.AsyncFor, ast.AsyncWith, ast.Await)


def sources():
    return [(path, path.read_text(encoding="utf-8")) for path in sorted(PACKAGE.rglob("*.py"))]


class Source(unittest.TestCase):
    def nodes(self):
        for path, text in sources():
            for node in ast.walk(ast.parse(text)):
                yield path, node

    def test_the_folder_holds_plain_files_only(self):
        for path in PACKAGE.iterdir():
            if path.name != "__pycache__":
                self.assertEqual(path.suffix, ".py")
                self.assertTrue(path.stem == "__init__" or path.stem.isidentifier() and path.stem.islower())

    def test_characters_and_sizes(self):
        for path, text in sources():
            lines = text.split("\n")
            self.assertLessEqual(len(lines), 399, path)
            self.assertLessEqual(max(len(line) for line in lines), 120, path)
            self.assertTrue(all(mark == "\n" or " " <= mark <= "~" for mark in text), path)

    def test_functions_have_at_most_40_lines(self):
        for path, node in self.nodes():
            if isinstance(node, ast.FunctionDef):
                self.assertLessEqual(node.end_lineno - node.lineno + 1, 40, (path, node.name))

    def test_imports_are_from_files_of_the_package(self):
        for path, node in self.nodes():
            self.assertNotIsInstance(node, ast.Import, path)
            if isinstance(node, ast.ImportFrom) and node.module not in LIBRARY:
                self.assertEqual(node.level, 0)
                top, name = node.module.split(".")
                self.assertEqual(top, "duepairs")
                self.assertTrue((PACKAGE / (name + ".py")).exists(), node.module)
                tree = ast.parse((PACKAGE / (name + ".py")).read_text(encoding="utf-8"))
                defined = [part.name for part in tree.body if hasattr(part, "name")]
                defined += [part.targets[0].id for part in tree.body if isinstance(part, ast.Assign)]
                for alias in node.names:
                    self.assertIn(alias.name, defined)

    def test_words_and_statements_that_are_not_used(self):
        for path, node in self.nodes():
            self.assertNotIsInstance(node, STATEMENTS_NOT_USED, path)
            self.assertNotIsInstance(node, ast.Div, path)
            names = [getattr(node, part, None) for part in ("id", "attr", "arg", "name")]
            self.assertFalse(NOT_USED & {name for name in names if isinstance(name, str)}, (path, names))
            if isinstance(node, ast.Constant):
                self.assertNotIsInstance(node.value, (float, complex), path)

    def test_what_a_class_with_operators_bars(self):
        for path, node in self.nodes():
            self.assertNotIsInstance(node, ast.GeneratorExp, path)
            if isinstance(node, ast.Call) and isinstance(node.func, ast.Attribute):
                self.assertNotEqual(node.func.attr, "sort", path)
            if isinstance(node, ast.Compare):
                for sign, side in zip(node.ops, node.comparators):
                    if isinstance(sign, (ast.Is, ast.IsNot)):
                        self.assertIn(ast.dump(side), [ast.dump(ast.Constant(value)) for value in
                                                       (None, True, False)], path)


if __name__ == "__main__":
    unittest.main()
