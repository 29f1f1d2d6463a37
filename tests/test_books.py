"""Points 7 to 9: books, turned pairs and rows, lots; and what point 4 (c) says of roads between."""

import unittest
from itertools import permutations, product

from heardapart.books import fewest_lots, is_book, is_lots, is_turned_row, longest_turned, roads_between, turned_pairs
from heardapart.errors import NoBook, Unlike

from tests.odd import fresh_things, odd_things
from tests.trials import books_by_trial, error_of, parts_by_trial, rows_by_trial, some_names, turned_by_trial

FIVE = ["d", "b", "e", "a", "c"]


def mixed(many, step):
    """A book of so many words, and the same words in the order of steps (step has no factor of many)."""
    words = some_names(many)
    return words, [words[k * step % many] for k in range(many)]


class Books(unittest.TestCase):
    def test_books(self):
        for book in ([], ["a"], ["b", "a"], ["word", "words", "wordsaid"], some_names(100), some_names(676)):
            self.assertIs(True, is_book(book))

    def test_no_books(self):
        for thing in (["a", "a"], ["a", "b", "a"], some_names(100) + ["ab"], ["a", ""], ["a", "B"], ["abcdefghi"],
                      ["a", None], ["a", 1], ["a", True], [b"a"], [["a"]], ["a b"], ["-"], "a", "ab", "", ("a", "b"),
                      (), {"a": 1}, {}, {"a"}, None, 0, iter(["a"]), range(0)):
            self.assertIs(False, is_book(thing))

    def test_odd_things(self):
        for k, thing in enumerate(odd_things()):
            with self.subTest(k):
                self.assertIs(False, is_book(thing))
                self.assertIs(False, is_book([thing]))
                self.assertIs(False, is_book(["one", thing, "two"]))


class TurnedPairs(unittest.TestCase):
    def test_without_words_and_of_one(self):
        self.assertEqual([], turned_pairs([], []))
        self.assertEqual([], turned_pairs(["a"], ["a"]))

    def test_the_same_book_twice(self):
        self.assertEqual([], turned_pairs(FIVE, list(FIVE)))
        self.assertEqual([], turned_pairs(FIVE, FIVE))

    def test_in_their_order(self):
        self.assertEqual([("c", "b"), ("c", "a"), ("b", "a")], turned_pairs(["c", "b", "a"], ["a", "b", "c"]))
        self.assertEqual([("a", "b")], turned_pairs(["a", "b"], ["b", "a"]))
        self.assertEqual([("b", "a")], turned_pairs(["b", "a"], ["a", "b"]))
        self.assertEqual([("d", "e"), ("d", "a"), ("b", "e"), ("b", "a"), ("c", "e"), ("c", "a")],
                         turned_pairs(["d", "b", "c", "e", "a"], ["e", "a", "d", "b", "c"]))

    def test_all_books_of_five_words(self):
        for other in books_by_trial(FIVE):
            self.assertEqual(turned_by_trial(FIVE, other), turned_pairs(FIVE, other))
            self.assertEqual(turned_by_trial(other, FIVE), turned_pairs(other, FIVE))

    def test_a_hundred_words_turned_about(self):
        words = some_names(100)
        pairs = turned_pairs(words, words[::-1])
        self.assertEqual([(a, b) for k, a in enumerate(words) for b in words[k + 1:]], pairs)


class TurnedRows(unittest.TestCase):
    def test_longest_of_all_books_of_five_words(self):
        for other in books_by_trial(FIVE):
            rows = rows_by_trial(FIVE, other)
            told = longest_turned(FIVE, other)
            self.assertIn(told, rows)
            self.assertEqual(max(len(row) for row in rows), len(told))

    def test_longest_of_none_one_and_the_same(self):
        self.assertEqual([], longest_turned([], []))
        self.assertEqual(["a"], longest_turned(["a"], ["a"]))
        self.assertEqual(1, len(longest_turned(FIVE, FIVE)))

    def test_longest_of_a_hundred_words(self):
        words = some_names(100)
        self.assertEqual(words, longest_turned(words, words[::-1]))
        for step in (3, 7, 37, 51, 99):
            book, other = mixed(100, step)
            told = longest_turned(book, other)
            self.assertIs(True, is_turned_row(book, other, told))
            self.assertEqual(len(fewest_lots(book, other)), len(told))

    def test_is_turned_row_of_all_rows_of_four_words(self):
        for other in books_by_trial(["d", "b", "c", "a"]):
            rows = rows_by_trial(["d", "b", "c", "a"], other)
            for many in range(5):
                for row in product(["d", "b", "c", "a"], repeat=many):
                    self.assertIs(list(row) in rows, is_turned_row(["d", "b", "c", "a"], other, list(row)))

    def test_a_list_without_words_is_one(self):
        self.assertIs(True, is_turned_row([], [], []))
        self.assertIs(True, is_turned_row(FIVE, FIVE, []))

    def test_no_rows(self):
        book = ["a", "b", "c"]
        for thing in (["c", "b", "a"], ["b", "a"], ["a", "a"], ["a", "b", "b"], ["a", "z"], ["z"], ("a", "b"), ("a",),
                      (), "a", "ab", "", {"a": 1}, {}, {"a"}, None, 0, ["a", None], [["a"]], ["a", ["b"]], [""], [0],
                      ["a", "b", "c", "a"], ["a", "b", "c", "d"]):
            self.assertIs(False, is_turned_row(book, book[::-1], thing))
        for row in (["a"], ["b"], ["a", "c"], ["a", "b", "c"]):
            self.assertIs(True, is_turned_row(book, book[::-1], row))

    def test_odd_things(self):
        for k, thing in enumerate(fresh_things()):
            with self.subTest(k):
                self.assertIs(False, is_turned_row(["one", "two"], ["two", "one"], thing))
                self.assertIs(False, is_turned_row(["one", "two"], ["two", "one"], ["one", thing]))
                self.assertIs(False, is_turned_row(["one", "two"], ["two", "one"], [thing, "two"]))


class Lots(unittest.TestCase):
    def test_fewest_of_some(self):
        self.assertEqual([], fewest_lots([], []))
        self.assertEqual([["a"]], fewest_lots(["a"], ["a"]))
        self.assertEqual([FIVE], fewest_lots(FIVE, FIVE))
        self.assertEqual([["d"], ["b"], ["e"], ["a"], ["c"]], fewest_lots(FIVE, FIVE[::-1]))
        self.assertEqual([["b", "d"], ["a", "c"]], fewest_lots(["b", "a", "d", "c"], ["a", "b", "c", "d"]))
        self.assertEqual([["c", "d"], ["b", "a"]], fewest_lots(["c", "d", "b", "a"], ["b", "a", "c", "d"]))

    def test_fewest_of_all_books_of_five_words(self):
        for other in books_by_trial(FIVE):
            rows = rows_by_trial(FIVE, other)
            longest = {word: max(len(row) for row in rows if row and row[-1] == word) for word in FIVE}
            wanted = [[word for word in FIVE if longest[word] == k] for k in range(1, max(longest.values()) + 1)]
            self.assertEqual(wanted, fewest_lots(FIVE, other))

    def test_no_fewer_would_do(self):
        for other in books_by_trial(["a", "b", "c", "d"]):
            turned = turned_by_trial(["a", "b", "c", "d"], other)
            parts = [told for told in parts_by_trial(["a", "b", "c", "d"])
                     if not any(a in lot and b in lot for a, b in turned for lot in told)]
            self.assertEqual(min(len(told) for told in parts), len(fewest_lots(["a", "b", "c", "d"], other)))

    def test_of_a_hundred_words(self):
        for step in (1, 3, 7, 37, 51, 99):
            book, other = mixed(100, step)
            lots = fewest_lots(book, other)
            self.assertIs(True, is_lots(book, other, lots))
            self.assertEqual(len(longest_turned(book, other)), len(lots))

    def test_is_lots_of_all_parts_of_four_words(self):
        book = ["b", "d", "a", "c"]
        for other in books_by_trial(book):
            turned = turned_by_trial(book, other)
            for parts in parts_by_trial(book):
                wanted = not any(a in lot and b in lot for a, b in turned for lot in parts)
                for lots in permutations(parts):
                    self.assertIs(wanted, is_lots(book, other, [lot[::-1] for lot in lots]))
                    self.assertIs(wanted, is_lots(book, other, [list(lot) for lot in lots]))

    def test_more_than_the_fewest_are_lots(self):
        self.assertIs(True, is_lots(["a", "b"], ["a", "b"], [["a"], ["b"]]))
        self.assertIs(True, is_lots(["a", "b"], ["a", "b"], [["b", "a"]]))

    def test_without_words(self):
        self.assertIs(True, is_lots([], [], []))
        self.assertIs(False, is_lots([], [], [[]]))
        self.assertIs(False, is_lots(["a"], ["a"], []))

    def test_no_lots(self):
        book, other = ["a", "b", "c"], ["b", "a", "c"]
        for thing in ([["a", "b", "c"]], [["a", "b"], ["c"]], [["a", "c"]], [["a", "c"], ["b"], []],
                      [["a", "c"], ["b", "c"]], [["a", "c", "c"], ["b"]], [["a", "c"], ["b"], ["b"]],
                      [["a", "c"], ["b", "z"]], [["a", "c"], ["b"], ["z"]], [("a", "c"), ["b"]], [["a", "c"], "b"],
                      (["a", "c"], ["b"]), [["a", "c"], {"b": 1}], {0: ["a", "c"], 1: ["b"]}, ["a", "b", "c"],
                      [["a", ["c"]], ["b"]], [["a", None], ["b"]], [["a", "c"], ["b"], None], [], [[]], None, "abc",
                      [["a"], ["a"], ["b"]], [["a"]] * 1000000, [["a", "c"] * 1000000, ["b"]]):
            self.assertIs(False, is_lots(book, other, thing))
        for lots in ([["a", "c"], ["b"]], [["b"], ["a", "c"]], [["c", "a"], ["b"]], [["a"], ["c", "b"]],
                     [["c"], ["b"], ["a"]]):
            self.assertIs(True, is_lots(book, other, lots))

    def test_odd_things(self):
        for k, thing in enumerate(fresh_things()):
            with self.subTest(k):
                self.assertIs(False, is_lots(["one", "two"], ["two", "one"], thing))
                self.assertIs(False, is_lots(["one", "two"], ["two", "one"], [["one"], thing]))
                self.assertIs(False, is_lots(["one", "two"], ["two", "one"], [thing, ["two"]]))
                self.assertIs(False, is_lots(["one", "two"], ["two", "one"], [["one"], [thing]]))
                self.assertIs(False, is_lots(["one", "two"], ["one", "two"], [["one", thing]]))
                self.assertIs(False, is_lots(["one", "two"], ["one", "two"], [["one", "two", thing]]))


class Roads(unittest.TestCase):
    def test_some(self):
        self.assertEqual(0, roads_between([], []))
        self.assertEqual(0, roads_between(["a"], ["a"]))
        self.assertEqual(0, roads_between(FIVE, FIVE))
        self.assertEqual(1, roads_between(["a", "b"], ["b", "a"]))
        self.assertEqual(4, roads_between(FIVE, FIVE[::-1]))
        self.assertEqual(99, roads_between(some_names(100), some_names(100)[::-1]))

    def test_all_books_of_five_words(self):
        for other in books_by_trial(FIVE):
            wanted = max(len(row) for row in rows_by_trial(FIVE, other)) - 1
            self.assertEqual(wanted, roads_between(FIVE, other))
            self.assertEqual(wanted, roads_between(other, FIVE))

    def test_told_by_a_row_and_by_lots(self):
        for step in (1, 3, 7, 37, 51, 99):
            book, other = mixed(100, step)
            self.assertEqual(len(longest_turned(book, other)) - 1, roads_between(book, other))
            self.assertEqual(len(fewest_lots(book, other)) - 1, roads_between(book, other))


CALLS = [
    lambda book, other: turned_pairs(book, other),
    lambda book, other: longest_turned(book, other),
    lambda book, other: fewest_lots(book, other),
    lambda book, other: roads_between(book, other),
    lambda book, other: is_turned_row(book, other, []),
    lambda book, other: is_turned_row(book, other, None),
    lambda book, other: is_lots(book, other, []),
    lambda book, other: is_lots(book, other, None),
]


class Refusals(unittest.TestCase):
    def test_no_book_of_the_one_and_of_the_other(self):
        for call in CALLS:
            for k, thing in enumerate(odd_things()):
                with self.subTest(k):
                    self.assertIs(NoBook, error_of(call, thing, ["one"]))
                    self.assertIs(NoBook, error_of(call, ["one"], thing))
                    self.assertIs(NoBook, error_of(call, thing, thing))
                    self.assertIs(NoBook, error_of(call, ["one", thing], ["one"]))
                    self.assertIs(NoBook, error_of(call, ["one"], ["one", thing]))

    def test_unlike_behind_no_book(self):
        for call in CALLS:
            for book, other in ((["a"], ["b"]), ([], ["a"]), (["a"], []), (["a", "b"], ["a"]), (["a"], ["a", "b"]),
                                (["a", "b"], ["b", "c"])):
                self.assertIs(Unlike, error_of(call, book, other))
                self.assertIs(NoBook, error_of(call, book + ["A"], other))
                self.assertIs(NoBook, error_of(call, book, other + ["A"]))
            self.assertIs(None, error_of(call, ["a", "b"], ["b", "a"]))
            self.assertIs(None, error_of(call, [], []))


if __name__ == "__main__":
    unittest.main()
