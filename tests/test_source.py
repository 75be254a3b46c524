"""Some of the rules of LANGUAGE.md that can be read off the package's files at once."""

import ast
import builtins
import pathlib
import unittest

PACKAGE = pathlib.Path(__file__).resolve().parent.parent / "duepairs"
LIBRARY = {"heapq", "math", "itertools", "collections"}
NOT_USED = {"register", "mro", "elements", "open", "input", "law", "version_info", "type", "eval",
            "exec", "globals", "locals", "vars", "dir", "id", "help", "compile", "hash", "filter",
            "float", "complex", "object", "round", "print", "chr"}
BUILTINS = set("""len range enumerate zip min max sum abs sorted reversed int str bool list tuple dict set isinstance
    ord repr any all divmod ValueError TypeError classmethod property super""".split())
# Doctest puts a "_" among them.
PYTHONS_OWN = {name for name in dir(builtins) if name != "_"}
METHODS = set("""append clear copy count endswith extend find get index insert isalnum isalpha isdigit islower isspace
    isupper items join keys ljust lower lstrip partition pop remove replace reverse rfind rjust rpartition rsplit rstrip
    setdefault split splitlines startswith strip update upper values zfill isascii isdecimal""".split())
STATEMENTS_NOT_USED = (ast.Global, ast.AsyncFunctionDef, ast.AsyncFor, ast.AsyncWith, ast.Await)


def sources():
    return [(path, path.read_text(encoding="utf-8")) for path in sorted(PACKAGE.rglob("*.py"))]


class Source(unittest.TestCase):
    def nodes(self):
        for path, text in sources():
            for node in ast.walk(ast.parse(text)):
                yield path, node

    def test_the_folder_holds_plain_files_only(self):
        for path in PACKAGE.iterdir():
            if path.name != "__pycache__":
                self.assertEqual(path.suffix, ".py")
                self.assertTrue(path.stem == "__init__" or path.stem.isidentifier() and path.stem.islower())

    def test_characters_and_sizes(self):
        for path, text in sources():
            lines = text.split("\n")
            self.assertLessEqual(len(lines), 399, path)
            self.assertLessEqual(max(len(line) for line in lines), 120, path)
            self.assertTrue(all(mark == "\n" or " " <= mark <= "~" for mark in text), path)

    def test_functions_have_at_most_40_lines(self):
        for path, node in self.nodes():
            if isinstance(node, ast.FunctionDef):
                self.assertLessEqual(node.end_lineno - node.lineno + 1, 40, (path, node.name))

    def test_imports_are_from_files_of_the_package(self):
        for path, node in self.nodes():
            self.assertNotIsInstance(node, ast.Import, path)
            if isinstance(node, ast.ImportFrom) and node.module not in LIBRARY:
                self.assertEqual(node.level, 0)
                top, name = node.module.split(".")
                self.assertEqual(top, "duepairs")
                self.assertTrue((PACKAGE / (name + ".py")).exists(), node.module)
                tree = ast.parse((PACKAGE / (name + ".py")).read_text(encoding="utf-8"))
                defined = [part.name for part in tree.body if hasattr(part, "name")]
                defined += [part.targets[0].id for part in tree.body if isinstance(part, ast.Assign)]
                for alias in node.names:
                    self.assertIn(alias.name, defined)

    def test_words_and_statements_that_are_not_used(self):
        for path, node in self.nodes():
            self.assertNotIsInstance(node, STATEMENTS_NOT_USED, path)
            self.assertNotIsInstance(node, ast.Div, path)
            names = [getattr(node, part, None) for part in ("id", "attr", "arg", "name")]
            self.assertFalse(NOT_USED & {name for name in names if isinstance(name, str)}, (path, names))
            if isinstance(node, ast.Constant):
                self.assertNotIsInstance(node.value, (float, complex), path)

    def test_builtins_and_methods(self):
        own = {node.name for _, node in self.nodes() if isinstance(node, ast.FunctionDef)} | {"setter", "__init__"}
        for path, node in self.nodes():
            if isinstance(node, ast.Name) and node.id in PYTHONS_OWN:
                self.assertIn(node.id, BUILTINS, path)
            if isinstance(node, ast.Call) and isinstance(node.func, ast.Attribute):
                self.assertIn(node.func.attr, METHODS | own, path)

    def test_no_name_has_two_meanings(self):
        for path, text in sources():
            tree = ast.parse(text)
            named = [alias.name for part in tree.body if isinstance(part, ast.ImportFrom) for alias in part.names]
            named += [part.name for part in tree.body if hasattr(part, "name")]
            named += [part.targets[0].id for part in tree.body if isinstance(part, ast.Assign)]
            self.assertEqual(len(named), len(set(named)), path)
            kept = [node.id for node in ast.walk(tree) if isinstance(node, ast.Name) and isinstance(node.ctx, ast.Store)
                    and node.col_offset > 0] + [node.arg for node in ast.walk(tree) if isinstance(node, ast.arg)]
            self.assertEqual([name for name in kept if name in named or name in PYTHONS_OWN], [], path)

    def test_what_a_class_with_operators_bars(self):
        for path, node in self.nodes():
            self.assertNotIsInstance(node, ast.GeneratorExp, path)
            if isinstance(node, ast.Call) and isinstance(node.func, ast.Attribute):
                self.assertNotIn(node.func.attr, ("sort", "discard"), path)
            if isinstance(node, ast.AugAssign):
                self.assertIsInstance(node.op, ast.Add, path)
                self.assertIsInstance(node.target, ast.Name, path)
                self.assertEqual(ast.dump(node.value), ast.dump(ast.Constant(1)), path)
            if isinstance(node, ast.Compare):
                for sign, side in zip(node.ops, node.comparators):
                    if isinstance(sign, (ast.Is, ast.IsNot)):
                        self.assertIn(ast.dump(side), [ast.dump(ast.Constant(value)) for value in
                                                       (None, True, False)], path)


if __name__ == "__main__":
    unittest.main()
