"""The package keeps to the rules of its language that a short test can see."""

import ast
import pathlib
import unittest

PACKAGE = pathlib.Path(__file__).resolve().parent.parent / "nolunch"
LIBRARY = {"math": {"gcd", "lcm"}}
BUILTINS = {"len", "range", "enumerate", "zip", "min", "max", "sum", "abs", "sorted", "reversed",
            "int", "str", "bool", "list", "tuple", "dict", "set", "isinstance", "repr", "any",
            "all", "divmod", "ValueError", "property"}
METHODS = {"append", "copy", "count", "endswith", "extend", "find", "get", "index", "insert",
           "isdigit", "items", "join", "keys", "pop", "remove", "replace", "reverse", "rfind",
           "split", "startswith", "values", "zfill", "isascii", "removeprefix", "partition"}
STATEMENTS = (ast.Module, ast.FunctionDef, ast.ClassDef, ast.Import, ast.ImportFrom, ast.Assign,
              ast.AugAssign, ast.If, ast.While, ast.For, ast.Return, ast.Break, ast.Continue,
              ast.Pass, ast.Raise, ast.Expr, ast.Try)


def sources():
    for path in sorted(PACKAGE.glob("*.py")):
        text = path.read_text(encoding="utf-8")
        yield path, text, ast.parse(text)


class Language(unittest.TestCase):
    def test_the_folder_holds_plain_python_files_alone(self):
        for path in PACKAGE.iterdir():
            if path.name != "__pycache__":
                self.assertEqual(path.suffix, ".py", path)
                self.assertEqual(path.name, path.name.lower())

    def test_sizes_and_characters(self):
        for path, text, tree in sources():
            lines = text.split("\n")
            self.assertLessEqual(len(lines), 399, path)
            self.assertTrue(text.endswith("\n"), path)
            for number, line in enumerate(lines, 1):
                self.assertLessEqual(len(line), 120, (path, number))
                self.assertTrue(all(" " <= sign <= "~" for sign in line), (path, number))
            for node in ast.walk(tree):
                if isinstance(node, ast.FunctionDef):
                    self.assertLessEqual(node.end_lineno - node.lineno + 1, 40, (path, node.name))

    def test_imports(self):
        for path, _, tree in sources():
            for node in ast.walk(tree):
                self.assertNotIsInstance(node, ast.Import, path)
                if isinstance(node, ast.ImportFrom):
                    self.assertEqual(node.level, 0)
                    names = {alias.name for alias in node.names}
                    self.assertTrue(all(alias.asname is None for alias in node.names))
                    if not node.module.startswith("nolunch."):
                        self.assertLessEqual(names, LIBRARY.get(node.module, set()), path)

    def test_no_two_files_import_from_each_other(self):
        behind = {}
        for path, _, tree in sources():
            behind["nolunch." + path.stem] = [node.module for node in ast.walk(tree)
                                              if isinstance(node, ast.ImportFrom)]
        done = set()
        while len(done) < len(behind):
            ready = {name for name in behind
                     if name not in done and all(other in done or other not in behind
                                                 for other in behind[name])}
            self.assertTrue(ready, sorted(set(behind) - done))
            done |= ready

    def test_statements_and_expressions(self):
        for path, _, tree in sources():
            for node in ast.walk(tree):
                where = (path.name, getattr(node, "lineno", 0))
                if isinstance(node, ast.stmt):
                    self.assertIsInstance(node, STATEMENTS, where)
                self.assertNotIsInstance(node, (ast.Div, ast.Global, ast.JoinedStr, ast.Set,
                                                ast.SetComp, ast.GeneratorExp, ast.Yield,
                                                ast.NamedExpr), where)
                if isinstance(node, ast.Constant):
                    self.assertIn(type(node.value), (int, str, bool, type(None)), where)
                if isinstance(node, (ast.FunctionDef, ast.ClassDef)):
                    told = [ast.unparse(each) for each in node.decorator_list]
                    self.assertIn(told, ([], ["property"]), where)

    def test_names_of_properties_are_those_of_nothing_else(self):
        properties, others = [], set()
        for _, _, tree in sources():
            for each in [node for node in ast.walk(tree) if isinstance(node, ast.ClassDef)]:
                for node in each.body:
                    if isinstance(node, ast.FunctionDef) and node.decorator_list:
                        properties.append(node.name)
                    elif isinstance(node, ast.FunctionDef):
                        others.add(node.name)
            others |= {node.attr for node in ast.walk(tree)
                       if isinstance(node, ast.Attribute) and isinstance(node.ctx, ast.Store)}
        self.assertEqual(sorted(properties), ["deals", "held", "log", "path", "settled"])
        self.assertFalse(set(properties) & others)

    def test_no_local_name_is_that_of_an_import_or_a_class(self):
        for path, _, tree in sources():
            taken = {alias.name for node in ast.walk(tree) if isinstance(node, ast.ImportFrom)
                     for alias in node.names}
            taken |= {node.name for node in ast.walk(tree) if isinstance(node, ast.ClassDef)}
            for node in ast.walk(tree):
                if isinstance(node, ast.Name) and isinstance(node.ctx, ast.Store):
                    self.assertNotIn(node.id, taken, (path.name, node.lineno))
                if isinstance(node, ast.arg):
                    self.assertNotIn(node.arg, taken, (path.name, node.lineno))

    def test_stars_stand_before_names(self):
        for path, _, tree in sources():
            for node in ast.walk(tree):
                if isinstance(node, ast.Call):
                    for each in node.args:
                        if isinstance(each, ast.Starred):
                            self.assertIsInstance(each.value, ast.Name, (path.name, node.lineno))

    def test_builtins_and_methods(self):
        own = {node.name for _, _, tree in sources() for node in ast.walk(tree)
               if isinstance(node, ast.FunctionDef)}
        for path, _, tree in sources():
            bound = {node.id for node in ast.walk(tree)
                     if isinstance(node, ast.Name) and isinstance(node.ctx, ast.Store)}
            bound |= {node.arg for node in ast.walk(tree) if isinstance(node, ast.arg)}
            bound |= {node.name for node in ast.walk(tree)
                      if isinstance(node, ast.ExceptHandler) and node.name is not None}
            bound |= {node.name for node in ast.walk(tree)
                      if isinstance(node, (ast.FunctionDef, ast.ClassDef))}
            for node in ast.walk(tree):
                if isinstance(node, ast.ImportFrom):
                    bound |= {alias.name for alias in node.names}
            for node in ast.walk(tree):
                if isinstance(node, ast.Name) and node.id not in bound:
                    self.assertIn(node.id, BUILTINS, (path.name, node.lineno))
                if isinstance(node, ast.Call) and isinstance(node.func, ast.Attribute):
                    self.assertIn(node.func.attr, METHODS | own, (path.name, node.lineno))
            self.assertFalse(bound & BUILTINS, path.name)


if __name__ == "__main__":
    unittest.main()
