"""The sizes and signs of the package's files, and what they import."""

import ast
import builtins
import os
import unittest

HERE = os.path.dirname(os.path.abspath(__file__))
FOLDER = os.path.join(os.path.dirname(HERE), "heardapart")
INTERFACE = {
    "errors": "ApartError NoName NoWeb NoHand NoRoad NoBook Unlike NoNumber NoNumbering NoSpot TooMany Twice Empty "
              "NoWord Alike NoMoment Faulty NoBooks NoParting Cross Common NoLine NoHeap NoText NoRow NoNet Unfinished",
    "webs": "is_name is_web way_between side_of meeting_of",
    "books": "is_book turned_pairs longest_turned fewest_lots roads_between is_turned_row is_lots "
             "how_many_numberings is_numbering book_at",
    "nets": "Net",
    "moments": "is_moment fault_of what_lies history_of comes_by",
    "partings": "partings_of pairs_of tree_places fewest_hands",
    "worlds": "world_or_paper is_paper is_world least_apart mouths_of",
    "lines": "heap_of rest_of how_many_rests",
    "texts": "show_web read_web show_book read_book show_moment read_moment show_history read_history",
    "desk": "Desk",
}
NET = "__init__ join shout step rest web words mouth book lane lying moment next_words settled hearings_to"
METHODS = {"nets": ("Net", NET), "desk": ("Desk", "__init__ say")}
# What the language lets a file import from outside of the package, as far as it is needed.
LIBRARY = {"math": ["comb"], "heapq": ["heapify", "heappop", "heappush"], "itertools": ["combinations", "permutations"]}
BUILTINS = ("len range enumerate zip min max sum sorted reversed int str list tuple dict set type any all "
            "ValueError").split()


def files():
    return sorted(name for name in os.listdir(FOLDER) if name != "__pycache__")


def text_of(name):
    with open(os.path.join(FOLDER, name), encoding="utf-8") as file:
        return file.read()


class TheFiles(unittest.TestCase):
    def test_names(self):
        self.assertIn("__init__.py", files())
        for name in files():
            self.assertTrue(name.endswith(".py") and name == name.lower(), name)

    def test_rows_and_signs(self):
        for name in files():
            rows = text_of(name).split("\n")
            self.assertLessEqual(len(rows), 400, name)
            self.assertLessEqual(max(len(row) for row in rows), 120, name)
            self.assertTrue(all(" " <= sign <= "~" for row in rows for sign in row), name)

    def test_functions_are_small(self):
        for name in files():
            for node in ast.walk(ast.parse(text_of(name))):
                if isinstance(node, ast.FunctionDef):
                    self.assertLessEqual(node.end_lineno - node.lineno + 1, 40, name + " " + node.name)

    def test_imports(self):
        for name in files():
            for node in ast.walk(ast.parse(text_of(name))):
                self.assertNotIsInstance(node, ast.Import, name)
                if isinstance(node, ast.ImportFrom):
                    self.assertEqual(0, node.level)
                    named = [alias.name for alias in node.names if alias.asname is None]
                    self.assertEqual(len(named), len(node.names))
                    if not node.module.startswith("heardapart."):
                        self.assertTrue(set(named) <= set(LIBRARY.get(node.module, [])), name)
                        continue
                    # From the very file that defines it.
                    body = ast.parse(text_of(node.module.partition(".")[2] + ".py")).body
                    self.assertTrue(set(named) <= set(names_bound(body)), name)

    def test_no_two_files_import_from_each_other(self):
        near = {name: modules_in(name) for name in files()}
        done = []
        while near:
            free = [name for name in near if all(other in done for other in near[name])]
            self.assertNotEqual([], free)
            done += free
            near = {name: near[name] for name in near if name not in free}

    def test_builtins(self):
        for name in files():
            for node in ast.walk(ast.parse(text_of(name))):
                if isinstance(node, ast.Name) and hasattr(builtins, node.id):
                    self.assertIn(node.id, BUILTINS, name)
                    self.assertIsInstance(node.ctx, ast.Load, name)

    def test_the_interface_is_defined_where_it_is_listed(self):
        for name, listed in INTERFACE.items():
            body = ast.parse(text_of(name + ".py")).body
            defined = [node.name for node in body if isinstance(node, (ast.FunctionDef, ast.ClassDef))]
            for word in listed.split():
                self.assertEqual(1, defined.count(word), name + " " + word)

    def test_methods_are_defined_in_the_class_itself(self):
        for name, (listed, methods) in METHODS.items():
            found = [node for node in ast.parse(text_of(name + ".py")).body
                     if isinstance(node, ast.ClassDef) and node.name == listed]
            defined = [node.name for node in found[0].body if isinstance(node, ast.FunctionDef)]
            for word in methods.split():
                self.assertEqual(1, defined.count(word), word)


def names_bound(body):
    """The names that the statements of a file define or assign."""
    for node in body:
        if isinstance(node, (ast.FunctionDef, ast.ClassDef)):
            yield node.name
        if isinstance(node, ast.Assign):
            yield node.targets[0].id


def modules_in(name):
    """The files of the package from which a file imports."""
    found = [node.module for node in ast.parse(text_of(name)).body if isinstance(node, ast.ImportFrom)]
    return [module.partition(".")[2] + ".py" for module in found if module.startswith("heardapart.")]


if __name__ == "__main__":
    unittest.main()
