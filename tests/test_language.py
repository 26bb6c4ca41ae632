"""What of the rules of the language can be seen without running the package."""

import ast
import os
import unittest

FOLDER = os.path.join(os.path.dirname(os.path.dirname(os.path.abspath(__file__))), "persuasion")
LIBRARY = {
    "heapq": ("heappop", "heappush", "heapify", "heapreplace", "heappushpop"),
    "math": ("gcd", "lcm", "isqrt", "comb", "perm", "factorial"),
    "itertools": (
        "product", "combinations", "permutations", "chain", "accumulate", "pairwise", "islice", "zip_longest",
    ),
    "collections": ("defaultdict", "deque"),
}
BARRED = ("type", "float", "chr", "map", "pow", "eval", "exec", "open", "input", "hash", "id", "round", "frozenset")


def sources():
    """The name, the text and the tree of each file of the package."""
    out = []
    for name in sorted(os.listdir(FOLDER)):
        if name != "__pycache__":
            with open(os.path.join(FOLDER, name), encoding="utf-8", newline="") as file:
                text = file.read()
            out.append((name, text, ast.parse(text)))
    return out


def imports(tree):
    return [node for node in ast.walk(tree) if isinstance(node, (ast.Import, ast.ImportFrom))]


class LanguageTest(unittest.TestCase):
    def test_files(self):
        names = [name for name, _, _ in sources()]
        self.assertIn("__init__.py", names)
        self.assertLessEqual(len(names), 100)
        for name in names:
            self.assertRegex(name, r"^[a-z0-9_]+\.py$")

    def test_sizes_and_signs(self):
        for name, text, tree in sources():
            rows = text.split("\n")
            self.assertLessEqual(len(rows), 400, name)
            for k, words in enumerate(rows):
                self.assertLessEqual(len(words), 120, (name, k + 1))
                self.assertTrue(all(" " <= sign <= "~" for sign in words), (name, k + 1))
            for node in ast.walk(tree):
                if isinstance(node, ast.FunctionDef):
                    self.assertLessEqual(node.end_lineno - node.lineno + 1, 40, (name, node.name))

    def test_imports(self):
        needs = {}
        for name, _, tree in sources():
            own = "persuasion." + name[:-3]
            needs[own] = []
            for node in imports(tree):
                self.assertIsInstance(node, ast.ImportFrom, name)
                self.assertEqual(node.level, 0, name)
                self.assertIn(node, tree.body, name)
                self.assertTrue(all(part.asname is None for part in node.names), name)
                if node.module in LIBRARY:
                    self.assertTrue(all(part.name in LIBRARY[node.module] for part in node.names), name)
                else:
                    needs[own].append(node.module)
        while needs:
            free = [own for own, others in needs.items() if not [other for other in others if other in needs]]
            self.assertTrue(free, "files that import each other: " + ", ".join(needs))
            for own in free:
                del needs[own]

    def test_imported_names_are_used_and_not_shadowed(self):
        for name, _, tree in sources():
            taken = [part.name for node in imports(tree) for part in node.names]
            named = [node for node in ast.walk(tree) if isinstance(node, ast.Name)]
            used = {node.id for node in named if isinstance(node.ctx, ast.Load)}
            bound = {node.id for node in named if not isinstance(node.ctx, ast.Load)}
            bound |= {node.arg for node in ast.walk(tree) if isinstance(node, ast.arg)}
            self.assertEqual([word for word in taken if word not in used], [], name)
            self.assertEqual([word for word in taken if word in bound], [], name)

    def test_values_and_names(self):
        for name, _, tree in sources():
            for node in ast.walk(tree):
                where = (name, getattr(node, "lineno", 0))
                self.assertNotIsInstance(node, (ast.Div, ast.AsyncFunctionDef, ast.Global, ast.Set), where)
                if isinstance(node, ast.Constant):
                    self.assertNotIsInstance(node.value, (float, complex), where)
                    self.assertNotIn("%", node.value if isinstance(node.value, str) else "", where)
                if isinstance(node, ast.Name):
                    self.assertNotIn(node.id, BARRED, where)
                if isinstance(node, (ast.FunctionDef, ast.ClassDef)):
                    self.assertEqual(node.decorator_list, [], where)


if __name__ == "__main__":
    unittest.main()
