"""Point 10: numberings of two books, and the books by them; and what point 4 (b) and (c) say of them."""

import unittest
from itertools import product
from math import comb

from heardapart.books import book_at, how_many_numberings, is_numbering, roads_between, turned_pairs
from heardapart.errors import NoBook, NoNumber, NoNumbering, NoSpot, TooMany, Unlike

from tests.odd import fresh_things, odd_things
from tests.trials import book_by_words, books_by_trial, dicts_by_trial, error_of, line_lets, numberings_by_trial, \
    some_names

FOUR = ["c", "a", "d", "b"]
MOST = 999999999


def is_point(thing):
    """Whether a thing is a number with a point, of which nothing is promised."""
    return type(thing) in (float, complex)


def no_numbers():
    return [thing for thing in odd_things() if not is_point(thing)] + [[], -1, -MOST, True, False, "0", "1", [0]]


class Counts(unittest.TestCase):
    def test_all_books_of_few_words(self):
        for many in range(5):
            book = FOUR[:many]
            for other in books_by_trial(book):
                for roads in range(4):
                    wanted = len(numberings_by_trial(book, other, roads))
                    self.assertEqual(wanted, how_many_numberings(book, other, roads))

    def test_more_words_and_roads(self):
        book = ["a", "b", "c", "d", "e"]
        for other in (["c", "e", "a", "d", "b"], ["b", "a", "e", "d", "c"], ["e", "a", "b", "c", "d"],
                      ["e", "d", "c", "b", "a"], ["b", "d", "a", "c", "e"]):
            for roads in range(6):
                wanted = len(numberings_by_trial(book, other, roads))
                self.assertEqual(wanted, how_many_numberings(book, other, roads))

    def test_none_where_there_are_too_few_roads(self):
        for other in books_by_trial(FOUR):
            fewest = roads_between(FOUR, other)
            for roads in range(5):
                self.assertIs(roads >= fewest, how_many_numberings(FOUR, other, roads) > 0)

    def test_without_words(self):
        for roads in (0, 1, 7, MOST):
            self.assertEqual(1, how_many_numberings([], [], roads))

    def test_twelve_words_and_roads_of_nine_figures(self):
        words = some_names(12)
        self.assertEqual((MOST + 1) ** 12, how_many_numberings(words, list(words), MOST))
        self.assertEqual(comb(MOST + 1, 12), how_many_numberings(words, words[::-1], MOST))
        self.assertEqual(0, how_many_numberings(words, words[::-1], 10))
        self.assertEqual(1, how_many_numberings(words, words[::-1], 11))
        last_first = words[1:] + words[:1]
        # The first word's number is lesser than eleven free ones.
        top = 23
        self.assertEqual(sum((top - k) ** 11 for k in range(top + 1)), how_many_numberings(words, last_first, top))
        pairs = [word for k in range(0, 12, 2) for word in (words[k + 1], words[k])]
        self.assertEqual(comb(MOST + 1, 2) ** 6, how_many_numberings(words, pairs, MOST))
        halves = words[6:] + words[:6]
        wanted = sum((top - k) ** 6 * ((k + 1) ** 6 - k ** 6) for k in range(top + 1))
        self.assertEqual(wanted, how_many_numberings(words, halves, top))

    def test_too_many_words(self):
        for many in (13, 14, 100):
            words = some_names(many)
            for other in (list(words), words[::-1]):
                self.assertIs(TooMany, error_of(how_many_numberings, words, other, 3))
                self.assertIs(TooMany, error_of(how_many_numberings, words, other, 0))
                self.assertIs(NoNumber, error_of(how_many_numberings, words, other, -1))
                self.assertIs(NoNumber, error_of(how_many_numberings, words, other, True))
                self.assertIs(Unlike, error_of(how_many_numberings, words, other[1:], -1))
                self.assertIs(NoBook, error_of(how_many_numberings, words + words, other[1:], -1))
        self.assertIs(None, error_of(how_many_numberings, some_names(12), some_names(12), 3))


class IsNumbering(unittest.TestCase):
    def test_all_dicts_of_few_words(self):
        for many in range(4):
            book = FOUR[:many]
            for other in books_by_trial(book):
                for roads in range(3):
                    wanted = numberings_by_trial(book, other, roads)
                    for told in dicts_by_trial(book, 3):
                        self.assertIs(told in wanted, is_numbering(book, other, roads, told))

    def test_the_order_of_filling_is_nothing(self):
        book, other = ["a", "b", "c"], ["c", "b", "a"]
        for words in books_by_trial(book):
            self.assertIs(True, is_numbering(book, other, 2, {word: book.index(word) for word in words}))
            self.assertIs(False, is_numbering(book, other, 2, {word: other.index(word) for word in words}))

    def test_a_hundred_words(self):
        words = some_names(100)
        numbers = {word: k for k, word in enumerate(words)}
        self.assertIs(True, is_numbering(words, words[::-1], 99, numbers))
        self.assertIs(True, is_numbering(words, words[::-1], MOST, numbers))
        self.assertIs(False, is_numbering(words, words[::-1], 98, numbers))
        self.assertIs(True, is_numbering(words, words, MOST, {word: MOST for word in words}))
        self.assertIs(False, is_numbering(words, words, MOST, {word: MOST + 1 for word in words}))
        numbers[words[40]], numbers[words[41]] = 41, 40
        self.assertIs(False, is_numbering(words, words[::-1], 99, numbers))

    def test_none(self):
        book, other = ["a", "b"], ["b", "a"]
        self.assertIs(True, is_numbering(book, other, 2, {"a": 0, "b": 2}))
        for thing in ({"a": 0}, {"b": 2}, {}, {"a": 0, "b": 2, "c": 1}, {"a": 0, "c": 2}, {"a": 0, "b": 3},
                      {"a": -1, "b": 2}, {"a": False, "b": 2}, {"a": 0, "b": True}, {"a": 0, "b": None},
                      {"a": "0", "b": "2"}, {"a": 0, "b": [2]}, {0: "a", 2: "b"}, {"a": 0, ("b",): 2}, {"a": 0, 2: 2},
                      [("a", 0), ("b", 2)], [0, 2], ["a", "b"], ("a", "b"), {"a", "b"}, "ab", None, 0,
                      {"a": 2, "b": 0}, {"a": 1, "b": 1}):
            self.assertIs(False, is_numbering(book, other, 2, thing))
        self.assertIs(True, is_numbering([], [], 0, {}))
        self.assertIs(False, is_numbering([], [], 0, []))
        self.assertIs(False, is_numbering([], [], 0, None))

    def test_odd_things(self):
        for k, thing in enumerate(fresh_things()):
            with self.subTest(k):
                self.assertIs(False, is_numbering(["one", "two"], ["one", "two"], 2, thing))
                self.assertIs(False, is_numbering(["one", "two"], ["one", "two"], 2, [thing]))
                if not is_point(thing):
                    self.assertIs(False, is_numbering(["one", "two"], ["one", "two"], 2, {"one": thing, "two": 1}))


class BookAt(unittest.TestCase):
    def test_all_books_of_few_words(self):
        for many in range(4):
            book = FOUR[:many]
            for other in books_by_trial(book):
                for roads in range(4):
                    for numbering in numberings_by_trial(book, other, roads):
                        for place in range(roads + 1):
                            self.assertEqual(book_by_words(book, other, numbering, place),
                                             book_at(book, other, roads, numbering, place))

    def test_some_books_of_six_words(self):
        book = ["a", "b", "c", "d", "e", "f"]
        for other in (["d", "a", "f", "b", "e", "c"], ["b", "a", "d", "c", "f", "e"], ["c", "f", "a", "d", "b", "e"]):
            for numbering in numberings_by_trial(book, other, 2):
                self.assertEqual(book, book_at(book, other, 2, numbering, 0))
                self.assertEqual(book_by_words(book, other, numbering, 1), book_at(book, other, 2, numbering, 1))
                self.assertEqual(other, book_at(book, other, 2, numbering, 2))

    def test_the_ends_are_the_two_books(self):
        words = some_names(100)
        numbering = {word: k for k, word in enumerate(words)}
        for roads in (99, 100, MOST):
            self.assertEqual(words, book_at(words, words[::-1], roads, numbering, 0))
            self.assertEqual(words[::-1], book_at(words, words[::-1], roads, numbering, roads))
        self.assertEqual(words[50::-1] + words[51:], book_at(words, words[::-1], 99, numbering, 50))
        self.assertEqual([], book_at([], [], 3, {}, 2))
        self.assertEqual(words, book_at(words, words, 0, {word: 0 for word in words}, 0))

    def test_by_just_the_numberings_all_lanes_let_books_between(self):
        for many in range(4):
            book = FOUR[:many]
            for other in books_by_trial(book):
                for roads in range(3):
                    for numbering in dicts_by_trial(book, roads):
                        between = product(books_by_trial(book), repeat=max(0, roads - 1))
                        lines = [[book, *books, other] if roads else [book] for books in between]
                        some = any(line_lets(line, numbering) for line in lines if line[-1] == other)
                        self.assertIs(some, is_numbering(book, other, roads, numbering))

    def test_all_lanes_let_the_told_books(self):
        for other in books_by_trial(FOUR):
            for numbering in numberings_by_trial(FOUR, other, 3):
                line = [book_at(FOUR, other, 3, numbering, place) for place in range(4)]
                self.assertIs(True, line_lets(line, numbering))

    def test_each_pair_is_turned_by_one_road_between_its_mouths(self):
        for other in books_by_trial(FOUR):
            for numbering in numberings_by_trial(FOUR, other, 3):
                line = [book_at(FOUR, other, 3, numbering, place) for place in range(4)]
                turned = []
                for k in range(3):
                    for a, b in turned_pairs(line[k], line[k + 1]):
                        self.assertTrue(numbering[a] <= k < numbering[b])
                        turned.append((a, b))
                self.assertEqual(sorted(turned_pairs(FOUR, other)), sorted(turned))


class Refusals(unittest.TestCase):
    def setUp(self):
        self.book = ["one", "two"]
        self.other = ["two", "one"]
        self.numbering = {"one": 0, "two": 1}

    def calls(self):
        """Each call, of both books and the roads."""
        return [
            lambda book, other, roads: how_many_numberings(book, other, roads),
            lambda book, other, roads: is_numbering(book, other, roads, self.numbering),
            lambda book, other, roads: is_numbering(book, other, roads, None),
            lambda book, other, roads: book_at(book, other, roads, self.numbering, 1),
            lambda book, other, roads: book_at(book, other, roads, None, None),
        ]

    def test_no_book_unlike_and_no_number_in_their_order(self):
        for call in self.calls():
            for k, thing in enumerate(odd_things()):
                with self.subTest(k):
                    self.assertIs(NoBook, error_of(call, thing, ["one"], 1))
                    self.assertIs(NoBook, error_of(call, ["one"], thing, 1))
                    self.assertIs(NoBook, error_of(call, thing, thing, thing))
                    self.assertIs(NoBook, error_of(call, ["one"], [thing], thing))
                    self.assertIs(Unlike, error_of(call, ["one"], ["two"], thing))
            for thing in no_numbers():
                self.assertIs(Unlike, error_of(call, ["one"], ["one", "two"], thing))
                self.assertIs(NoNumber, error_of(call, self.book, self.other, thing))
            self.assertIs(Unlike, error_of(call, ["one"], ["two"], 1))

    def test_no_numbering_and_no_spot_in_their_order(self):
        self.assertEqual(self.other, book_at(self.book, self.other, 1, self.numbering, 1))
        for k, thing in enumerate(fresh_things() + [{"one": 1, "two": 0}, {"one": 0, "two": 2}]):
            with self.subTest(k):
                self.assertIs(NoNumbering, error_of(book_at, self.book, self.other, 1, thing, 1))
                self.assertIs(NoNumbering, error_of(book_at, self.book, self.other, 1, thing, thing))
                self.assertIs(Unlike, error_of(book_at, self.book, ["one"], 1, thing, thing))
                self.assertIs(NoNumber, error_of(book_at, self.book, self.other, -1, thing, thing))
                if not is_point(thing):
                    self.assertIs(NoNumbering, error_of(book_at, self.book, self.book, 1, {"one": thing, "two": 0}, 0))
        for thing in no_numbers() + [2, 3, MOST, 10 ** 30]:
            self.assertIs(NoSpot, error_of(book_at, self.book, self.other, 1, self.numbering, thing))

    def test_a_numbering_by_fewer_roads(self):
        self.assertIs(NoNumbering, error_of(book_at, self.book, self.other, 0, self.numbering, 0))
        self.assertIs(NoNumbering, error_of(book_at, self.book, self.other, 0, self.numbering, 5))
        self.assertIs(NoSpot, error_of(book_at, [], [], 0, {}, 1))


if __name__ == "__main__":
    unittest.main()
