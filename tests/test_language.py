"""The sizes and signs of the package's files, and what they import."""

import ast
import os
import unittest

HERE = os.path.dirname(os.path.abspath(__file__))
FOLDER = os.path.join(os.path.dirname(HERE), "heardapart")
INTERFACE = {
    "errors": "ApartError NoName NoWeb NoHand NoRoad NoBook Unlike NoNumber NoNumbering NoSpot TooMany Twice Empty "
              "NoWord Alike NoMoment Faulty NoBooks NoParting Cross Common NoLine NoHeap NoText NoRow NoNet Unfinished",
    "webs": "is_name is_web way_between side_of meeting_of",
    "books": "is_book turned_pairs longest_turned fewest_lots roads_between is_turned_row is_lots "
             "how_many_numberings is_numbering book_at",
    "nets": "Net",
    "moments": "is_moment fault_of what_lies history_of comes_by",
    "partings": "partings_of pairs_of tree_places fewest_hands",
}
NET = "__init__ join shout step rest web words mouth book lane lying moment next_words settled hearings_to"
LIBRARY = {"math": ["comb"], "heapq": ["heapify", "heappop", "heappush"], "itertools": ["combinations"]}


def files():
    return sorted(name for name in os.listdir(FOLDER) if name != "__pycache__")


def text_of(name):
    with open(os.path.join(FOLDER, name), encoding="utf-8") as file:
        return file.read()


class TheFiles(unittest.TestCase):
    def test_names(self):
        self.assertIn("__init__.py", files())
        for name in files():
            self.assertTrue(name.endswith(".py") and name == name.lower(), name)

    def test_rows_and_signs(self):
        for name in files():
            rows = text_of(name).split("\n")
            self.assertLessEqual(len(rows), 400, name)
            self.assertLessEqual(max(len(row) for row in rows), 120, name)
            self.assertTrue(all(" " <= sign <= "~" for row in rows for sign in row), name)

    def test_functions_are_small(self):
        for name in files():
            for node in ast.walk(ast.parse(text_of(name))):
                if isinstance(node, ast.FunctionDef):
                    self.assertLessEqual(node.end_lineno - node.lineno + 1, 40, name + " " + node.name)

    def test_imports(self):
        for name in files():
            for node in ast.walk(ast.parse(text_of(name))):
                self.assertNotIsInstance(node, ast.Import, name)
                if isinstance(node, ast.ImportFrom):
                    self.assertEqual(0, node.level)
                    named = [alias.name for alias in node.names if alias.asname is None]
                    self.assertTrue(named == LIBRARY.get(node.module) or node.module.startswith("heardapart."), name)

    def test_the_interface_is_defined_where_it_is_listed(self):
        for name, listed in INTERFACE.items():
            body = ast.parse(text_of(name + ".py")).body
            defined = [node.name for node in body if isinstance(node, (ast.FunctionDef, ast.ClassDef))]
            for word in listed.split():
                self.assertEqual(1, defined.count(word), name + " " + word)

    def test_a_nets_methods_are_defined_in_the_class_itself(self):
        for node in ast.parse(text_of("nets.py")).body:
            if isinstance(node, ast.ClassDef) and node.name == "Net":
                defined = [one.name for one in node.body if isinstance(one, ast.FunctionDef)]
                for word in NET.split():
                    self.assertEqual(1, defined.count(word), word)


if __name__ == "__main__":
    unittest.main()
