"""That the package keeps to the plainest rules of the language it is written in."""

import ast
import unittest
from pathlib import Path

FOLDER = Path(__file__).resolve().parent.parent / "rulehouse"
BUILTINS = set("""len range enumerate zip min max sum abs sorted reversed int str bool list tuple dict set isinstance
    ord repr any all divmod ValueError NotImplemented super""".split())
METHODS = set("""append clear copy count endswith extend find get index insert isalnum isalpha isdigit islower isspace
    isupper items join keys ljust lower lstrip partition pop remove replace reverse rfind rjust rpartition rsplit rstrip
    setdefault split splitlines startswith strip update upper values zfill bit_length""".split())
BARRED = (ast.GeneratorExp, ast.Yield, ast.YieldFrom, ast.Global, ast.AsyncFunctionDef, ast.Await, ast.Set,
          ast.Div, ast.AnnAssign, ast.With, ast.Match)
LIBRARY = {"heapq": {"heappush", "heappop"}, "math": {"gcd", "lcm", "factorial"}, "itertools": {"permutations"}}
WORDS = ("type", "typing", "enum", "dataclass", "overload", "namedtuple", "_wall", "_WallAttr")


def files():
    return sorted(FOLDER.glob("*.py"))


def tree_of(path):
    return ast.parse(path.read_text())


def own_imports(path):
    return [node for node in tree_of(path).body
            if isinstance(node, ast.ImportFrom) and node.module not in LIBRARY]


OWN_ERRORS = [node.name for node in tree_of(FOLDER / "errors.py").body if isinstance(node, ast.ClassDef)]


def local_names(tree):
    found = {node.arg for node in ast.walk(tree) if isinstance(node, ast.arg)}
    return found | {node.id for node in ast.walk(tree) if isinstance(node, ast.Name) and isinstance(node.ctx, ast.Store)}


class Language(unittest.TestCase):
    def test_the_folder_holds_plain_files_alone(self):
        for path in FOLDER.iterdir():
            if path.name != "__pycache__":
                self.assertTrue(path.is_file() and path.suffix == ".py" and path.name == path.name.lower(), path)

    def test_sizes_and_signs(self):
        for path in files():
            text = path.read_text()
            lines = text.split("\n")
            self.assertLess(len(lines), 400, path)
            for line in lines:
                self.assertLessEqual(len(line), 120, (path, line))
                self.assertTrue(all([" " <= sign <= "~" for sign in line]), (path, line))
            for node in ast.walk(ast.parse(text)):
                if isinstance(node, ast.FunctionDef):
                    self.assertLessEqual(node.end_lineno - node.lineno + 1, 40, (path, node.name))

    def test_statements_and_values(self):
        for path in files():
            for node in ast.walk(tree_of(path)):
                self.assertNotIsInstance(node, BARRED, (path, getattr(node, "lineno", 0)))
                if isinstance(node, ast.Try):
                    self.check_try(node, path)
                if isinstance(node, ast.Constant) and isinstance(node.value, str):
                    self.assertNotIn("%", node.value, path)
                    for word in WORDS:
                        self.assertNotIn(word, node.value.split(), path)
                if isinstance(node, ast.ImportFrom):
                    names = {alias.name for alias in node.names}
                    self.assertTrue(node.module.startswith("rulehouse.") or names <= LIBRARY[node.module], path)
                    self.assertEqual((node.level, [alias.asname for alias in node.names]), (0, [None] * len(names)), path)
                self.assertNotIsInstance(node, ast.Import, path)

    def check_try(self, node, path):
        """That a try catches own errors alone, by name, and that what ends it assigns attributes alone."""
        caught = [name.id for handler in node.handlers for name in ast.walk(handler.type) if isinstance(name, ast.Name)]
        self.assertTrue(all([name in OWN_ERRORS for name in caught]), path)
        for told in node.finalbody:
            self.assertIsInstance(told, ast.Assign, path)
            self.assertIsInstance(told.targets[0], ast.Attribute, path)
            self.assertIsInstance(told.value, ast.Name, path)

    def test_builtins_and_methods(self):
        own = {node.name for path in files() for node in ast.walk(tree_of(path))
               if isinstance(node, (ast.FunctionDef, ast.ClassDef))}
        builtins = set(dir(__builtins__)) if not isinstance(__builtins__, dict) else set(__builtins__)
        for path in files():
            tree = tree_of(path)
            bound = local_names(tree) | own
            self.assertEqual(set(), bound & (builtins - {"__init__"}), path)
            for node in ast.walk(tree):
                if isinstance(node, ast.Name) and node.id in builtins:
                    self.assertIn(node.id, BUILTINS, (path, node.lineno))
                if isinstance(node, ast.Call) and isinstance(node.func, ast.Attribute):
                    self.assertIn(node.func.attr, METHODS | own, (path, node.lineno))

    def test_methods_are_called_where_they_stand(self):
        classes = [node for path in files() for node in ast.walk(tree_of(path)) if isinstance(node, ast.ClassDef)]
        methods = {node.name for made in classes for node in made.body if isinstance(node, ast.FunctionDef)}
        attributes = {node.attr for made in classes for node in ast.walk(made)
                      if isinstance(node, ast.Attribute) and isinstance(node.ctx, ast.Store)}
        # An error of the interface has an attribute that a class of it has as a method.
        self.assertEqual({"contents"}, methods & attributes)
        for path in files():
            tree = tree_of(path)
            called = [id(node.func) for node in ast.walk(tree) if isinstance(node, ast.Call)]
            for node in ast.walk(tree):
                if isinstance(node, ast.Attribute) and id(node) not in called:
                    self.assertNotIn(node.attr, (methods | METHODS) - {"index", "contents"}, (path, node.lineno))

    def test_names_are_bound_once(self):
        for path in files():
            tree = tree_of(path)
            imports = [alias.name for node in tree.body if isinstance(node, ast.ImportFrom) for alias in node.names]
            classes = [node.name for node in tree.body if isinstance(node, ast.ClassDef)]
            functions = [node.name for node in tree.body if isinstance(node, ast.FunctionDef)]
            every = imports + classes + functions
            self.assertEqual(len(every), len(set(every)), path)
            inside = {name for node in tree.body if isinstance(node, (ast.FunctionDef, ast.ClassDef))
                      for name in local_names(node)}
            self.assertEqual(set(), inside & set(imports + classes), path)
            used = {node.id for node in ast.walk(tree) if isinstance(node, ast.Name)}
            self.assertEqual(set(), set(imports) - used, path)
            for name in classes:
                self.assertTrue(name[0].isupper(), path)

    def test_imports_do_not_come_round(self):
        beside = {path.stem: {node.module.split(".")[1] for node in own_imports(path)} for path in files()}
        left = dict(beside)
        while left:
            free = [name for name, others in left.items() if not others & set(left)]
            self.assertTrue(free, left)
            left = {name: others for name, others in left.items() if name not in free}

    def test_each_import_names_the_defining_file(self):
        for path in files():
            for node in own_imports(path):
                there = tree_of(FOLDER / (node.module.split(".")[1] + ".py"))
                defined = [other.name for other in there.body if isinstance(other, (ast.FunctionDef, ast.ClassDef))]
                defined += [target.id for other in there.body if isinstance(other, ast.Assign)
                            for target in other.targets]
                for alias in node.names:
                    self.assertIn(alias.name, defined, path)


if __name__ == "__main__":
    unittest.main()
