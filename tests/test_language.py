"""Those rules of LANGUAGE.md that a short look at the files can tell."""

import ast
import builtins
import unittest
from pathlib import Path

PACKAGE = Path(__file__).resolve().parent.parent / "racebooks"
FILES = sorted(PACKAGE.rglob("*.py"))
LIBRARY = {"math": {"gcd", "lcm", "isqrt", "comb", "perm", "factorial"},
           "heapq": {"heappush", "heappop", "heapify", "heapreplace", "heappushpop"},
           "itertools": {"product", "combinations", "permutations", "chain", "accumulate", "pairwise", "islice",
                         "zip_longest"},
           "collections": {"defaultdict", "deque"}}
DECORATORS = {"property", "staticmethod", "classmethod"}
# Because Race has __eq__ (L7).
TAKE_LISTS = {"any", "all", "min", "max", "sum", "sorted"}
# Those of L8 and L25 that the package has needed so far.
BUILTINS = {"len", "range", "enumerate", "zip", "min", "max", "sum", "abs", "sorted", "int", "str", "bool", "list",
            "tuple", "dict", "set", "isinstance", "any", "all", "Exception", "property", "staticmethod"}
METHODS = {"append", "extend", "join", "split", "partition", "startswith", "isascii", "isdigit", "isalpha", "islower"}
STATEMENTS = (ast.Assign, ast.AugAssign, ast.If, ast.While, ast.For, ast.Return, ast.Raise, ast.Expr, ast.Try,
              ast.Import, ast.ImportFrom, ast.FunctionDef, ast.ClassDef)


def trees():
    return [(path, ast.parse(path.read_text())) for path in FILES]


class Language(unittest.TestCase):
    def test_files(self):
        others = [path.name for path in PACKAGE.rglob("*") if path.is_file() and path.suffix not in (".py", ".pyc")]
        self.assertEqual(others, [])
        for path in FILES:
            self.assertTrue(path.stem.replace("_", "").isalnum() and path.stem == path.stem.lower())

    def test_sizes_and_signs(self):
        for path in FILES:
            rows = path.read_text().split("\n")
            self.assertLess(len(rows), 400)
            for row in rows:
                self.assertLessEqual(len(row), 120)
                self.assertTrue(all(" " <= sign <= "~" for sign in row), row)

    def test_functions_are_short(self):
        for path, tree in trees():
            for node in ast.walk(tree):
                if isinstance(node, ast.FunctionDef):
                    self.assertLessEqual(node.end_lineno - node.lineno + 1, 40, (path.name, node.name))

    def test_imports(self):
        for path, tree in trees():
            for node in ast.walk(tree):
                self.assertNotIsInstance(node, ast.Import, path.name)
                if isinstance(node, ast.ImportFrom):
                    names = {name.name for name in node.names}
                    if node.module in LIBRARY:
                        self.assertLessEqual(names, LIBRARY[node.module])
                    else:
                        home = ast.parse((PACKAGE.parent / (node.module.replace(".", "/") + ".py")).read_text())
                        self.assertLessEqual(names, names_of(home), (path.name, node.module))

    def test_names_are_bound_once(self):
        for path, tree in trees():
            names = names_of(tree, once=False)
            names += [name.name for node in tree.body if isinstance(node, ast.ImportFrom) for name in node.names]
            self.assertEqual(sorted(names), sorted(set(names)), path.name)

    def test_no_name_means_something_else_inside(self):
        for path, tree in trees():
            # A doctest that has run leaves _ among the builtins.
            taken = names_of(tree) | set(dir(builtins)) - {"_"}
            taken |= {name.name for node in tree.body if isinstance(node, ast.ImportFrom) for name in node.names}
            for node in ast.walk(tree):
                if isinstance(node, ast.arg):
                    self.assertNotIn(node.arg, taken, path.name)
                if isinstance(node, ast.FunctionDef):
                    inside = [part.id for part in ast.walk(node)
                              if isinstance(part, ast.Name) and isinstance(part.ctx, ast.Store)]
                    self.assertFalse(set(inside) & taken, (path.name, node.name))

    def test_no_floats(self):
        for path, tree in trees():
            for node in ast.walk(tree):
                self.assertNotIsInstance(node, ast.Div, path.name)
                if isinstance(node, ast.Constant):
                    self.assertNotIsInstance(node.value, (float, complex), path.name)

    def test_decorators(self):
        for path, tree in trees():
            for node in ast.walk(tree):
                if isinstance(node, (ast.FunctionDef, ast.ClassDef)):
                    names = {told.id for told in node.decorator_list if isinstance(told, ast.Name)}
                    self.assertLessEqual(names, DECORATORS, path.name)

    def test_builtins(self):
        for path, tree in trees():
            used = {node.id for node in ast.walk(tree) if isinstance(node, ast.Name)} & (set(dir(builtins)) - {"_"})
            self.assertLessEqual(used, BUILTINS, path.name)

    def test_methods(self):
        own = {node.name for _, tree in trees() for node in ast.walk(tree) if isinstance(node, ast.FunctionDef)}
        for path, tree in trees():
            for node in ast.walk(tree):
                if isinstance(node, ast.Call) and isinstance(node.func, ast.Attribute):
                    self.assertIn(node.func.attr, METHODS | own, path.name)
                    self.assertFalse(node.keywords, path.name)

    def test_statements(self):
        for path, tree in trees():
            for node in ast.walk(tree):
                if isinstance(node, ast.stmt):
                    self.assertIsInstance(node, STATEMENTS, path.name)

    def test_strings(self):
        for path, tree in trees():
            for node in ast.walk(tree):
                if isinstance(node, ast.Constant) and isinstance(node.value, str):
                    self.assertNotIn(chr(37), node.value, path.name)

    def test_errors_that_are_raised_and_caught(self):
        for path, tree in trees():
            for node in ast.walk(tree):
                if isinstance(node, ast.Raise):
                    self.assertIn(node.exc.func.id, ("BadValue", "BadOffer", "BadSyntax", "TooMany"), path.name)
                if isinstance(node, ast.ExceptHandler):
                    self.assertIn(node.type.id, ("BadValue", "BadOffer", "TooMany"), path.name)

    def test_no_two_files_import_from_each_other(self):
        wanted = {path.stem: {node.module.partition(".")[2] for node in tree.body if isinstance(node, ast.ImportFrom)
                              and node.module not in LIBRARY} for path, tree in trees()}
        while wanted:
            free = [name for name, others in wanted.items() if not others & set(wanted)]
            self.assertTrue(free, wanted)
            for name in free:
                del wanted[name]

    def test_no_generator_expression_where_a_list_is_due(self):
        for path, tree in trees():
            for node in ast.walk(tree):
                if isinstance(node, ast.Call) and isinstance(node.func, ast.Name) and node.func.id in TAKE_LISTS:
                    self.assertFalse([part for part in node.args if isinstance(part, ast.GeneratorExp)], path.name)


def names_of(tree, once=True):
    names = [node.name for node in tree.body if isinstance(node, (ast.FunctionDef, ast.ClassDef))]
    names += [target.id for node in tree.body if isinstance(node, ast.Assign) for target in node.targets]
    return set(names) if once else names


if __name__ == "__main__":
    unittest.main()
