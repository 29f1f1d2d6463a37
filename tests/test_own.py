"""Point 2: what is handed in stays as it was, what is told is the asker's own, the same is answered the same."""

import unittest
from copy import deepcopy
from itertools import permutations

from heardapart import books, webs
from heardapart.errors import ApartError

from tests.odd import odd_things
from tests.trials import line_web, some_names

WEB = (["c", "a", "d", "b"], [("a", "c"), ("c", "d"), ("b", "d")])
BOOK = ["d", "b", "a", "c"]
OTHER = ["a", "d", "c", "b"]
ASKED = [
    (webs.is_name, ("a",)),
    (webs.is_web, (WEB,)),
    (webs.way_between, (WEB, "a", "b")),
    (webs.way_between, (WEB, "a", "a")),
    (webs.way_between, ((["a"], []), "a", "a")),
    (webs.side_of, (WEB, "c", "d")),
    (webs.side_of, (WEB, "a", "c")),
    (webs.meeting_of, (WEB, "a", "b", "d")),
    (books.is_book, (BOOK,)),
    (books.turned_pairs, (BOOK, OTHER)),
    (books.turned_pairs, (BOOK, BOOK)),
    (books.longest_turned, (BOOK, OTHER)),
    (books.longest_turned, ([], [])),
    (books.fewest_lots, (BOOK, OTHER)),
    (books.fewest_lots, (BOOK, BOOK)),
    (books.fewest_lots, ([], [])),
    (books.roads_between, (BOOK, OTHER)),
    (books.is_turned_row, (BOOK, OTHER, ["d", "a"])),
    (books.is_lots, (BOOK, OTHER, [["d", "c"], ["b"], ["a"]])),
    (books.how_many_numberings, (BOOK, OTHER, 5)),
    (books.is_numbering, (BOOK, OTHER, 3, {"d": 0, "b": 1, "a": 3, "c": 2})),
    (books.book_at, (BOOK, OTHER, 3, {"d": 0, "b": 1, "a": 3, "c": 2}, 0)),
    (books.book_at, (BOOK, OTHER, 3, {"d": 0, "b": 1, "a": 3, "c": 2}, 1)),
    (books.book_at, (BOOK, OTHER, 3, {"d": 0, "b": 1, "a": 3, "c": 2}, 3)),
    (books.book_at, ([], [], 3, {}, 3)),
]


def lists_in(thing):
    """All lists and dicts that a thing is or has in it."""
    found = [thing] if isinstance(thing, (list, dict)) else []
    for inner in thing if isinstance(thing, (list, tuple, dict)) else []:
        found = found + lists_in(inner)
        if isinstance(thing, dict):
            found = found + lists_in(thing[inner])
    return found


def spoil(thing):
    for inner in lists_in(thing):
        inner.clear()
        if isinstance(inner, list):
            inner.append("spoilt")
        else:
            inner["spoilt"] = -1


class Own(unittest.TestCase):
    def test_what_is_handed_in_stays(self):
        for call, args in ASKED:
            ahead = deepcopy(args)
            call(*args)
            self.assertEqual(repr(ahead), repr(args))

    def test_what_is_refused_stays(self):
        book, other, numbers = ["a", "b", "b"], ["b", "a"], {"a": 0, "b": 3}
        for call, args in ((books.turned_pairs, (book, other)), (books.fewest_lots, (other, book)),
                           (books.book_at, (other, ["a", "b"], 3, numbers, 1)),
                           (webs.way_between, ((book, [("a", "b"), ("a", "b")]), "a", "b")),
                           (webs.side_of, (WEB, "a", "d"))):
            ahead = deepcopy(args)
            self.assertRaises(ApartError, call, *args)
            self.assertEqual(repr(ahead), repr(args))

    def test_the_same_asked_again_is_answered_the_same(self):
        for call, args in ASKED:
            told = call(*args)
            self.assertEqual(told, call(*args))
            self.assertEqual(told, call(*deepcopy(args)))
            self.assertIs(type(told), type(call(*args)))

    def test_lists_told_are_new_ones(self):
        for call, args in ASKED:
            told = lists_in(call(*args)) + lists_in(call(*args)) + lists_in(args)
            self.assertEqual(len(told), len({id(inner) for inner in told}) + repeated(args))

    def test_what_is_done_to_it_changes_nothing_told_later(self):
        for call, args in ASKED:
            told = call(*args)
            ahead = deepcopy(told)
            spoil(told)
            self.assertEqual(ahead, call(*args))

    def test_what_is_done_to_what_was_handed_in_changes_nothing_told(self):
        for call, args in ASKED:
            given = deepcopy(args)
            told = call(*given)
            ahead = deepcopy(told)
            spoil(given)
            self.assertEqual(ahead, told)

    def test_the_order_in_which_a_dict_was_filled(self):
        numbers = {"d": 0, "b": 1, "a": 3, "c": 2}
        for words in permutations(numbers):
            filled = {word: numbers[word] for word in words}
            self.assertIs(True, books.is_numbering(BOOK, OTHER, 3, filled))
            for place in range(4):
                self.assertEqual(books.book_at(BOOK, OTHER, 3, numbers, place),
                                 books.book_at(BOOK, OTHER, 3, filled, place))

    def test_kinds_that_are_told(self):
        for call, args in ASKED:
            told = call(*args)
            self.assertIn(type(told), (bool, int, str, list))
            for inner in told if type(told) is list else []:
                self.assertIn(type(inner), (str, tuple, list))
        self.assertEqual([("d", "a"), ("b", "a"), ("b", "c")], books.turned_pairs(BOOK, OTHER))
        self.assertIs(int, type(books.roads_between(BOOK, OTHER)))

    def test_what_was_told_may_be_handed_in(self):
        self.assertIs(True, books.is_book(webs.way_between(WEB, "a", "b")))
        self.assertIs(True, books.is_book(webs.side_of(WEB, "c", "d")))
        self.assertIs(True, books.is_turned_row(BOOK, OTHER, books.longest_turned(BOOK, OTHER)))
        self.assertIs(True, books.is_lots(BOOK, OTHER, books.fewest_lots(BOOK, OTHER)))
        many = books.how_many_numberings(BOOK, OTHER, 5)
        self.assertTrue(books.how_many_numberings(BOOK, OTHER, many) > many)
        middle = books.book_at(BOOK, OTHER, 3, {"d": 0, "b": 1, "a": 3, "c": 2}, 1)
        self.assertEqual([], books.turned_pairs(middle, middle))
        words = some_names(12)
        count = books.how_many_numberings(words, words, 10 ** 9)
        self.assertIs(True, books.is_numbering(["a"], ["a"], count, {"a": count}))
        self.assertEqual(["a"], books.book_at(["a"], ["a"], count, {"a": count}, count))

    def test_a_whole_number_is_no_truth(self):
        self.assertIs(False, books.is_numbering(["a"], ["a"], 1, {"a": True}))
        self.assertIs(False, books.is_numbering(["a"], ["a"], 1, {"a": False}))
        for call in (lambda: books.how_many_numberings(["a"], ["a"], True),
                     lambda: books.is_numbering(["a"], ["a"], False, {"a": 0}),
                     lambda: books.book_at(["a"], ["a"], 1, {"a": 0}, True)):
            self.assertRaises(ApartError, call)

    def test_odd_things_stay_as_they_are(self):
        for thing in odd_things():
            if type(thing) is list or type(thing) is tuple or type(thing) is dict:
                ahead = [id(inner) for inner in thing]
                for ask in (webs.is_web, books.is_book, lambda given: books.is_lots(BOOK, OTHER, given),
                            lambda given: books.is_turned_row(BOOK, OTHER, given),
                            lambda given: books.is_numbering(BOOK, OTHER, 3, given)):
                    ask(thing)
                self.assertEqual(ahead, [id(inner) for inner in thing])

    def test_a_hundred_things(self):
        words = some_names(100)
        web = line_web(words)
        numbers = {word: k * 10101010 for k, word in enumerate(words)}
        for _ in range(20):
            self.assertEqual(100, len(webs.way_between(web, words[0], words[99])))
            self.assertEqual(words[33], webs.meeting_of(web, words[99], words[33], words[0]))
            self.assertEqual(100, len(books.longest_turned(words, words[::-1])))
            self.assertEqual(words[::-1], books.book_at(words, words[::-1], 999999999, numbers, 999999999))


def repeated(args):
    """How often a list stands again among the things handed in."""
    found = lists_in(args)
    return len(found) - len({id(inner) for inner in found})


if __name__ == "__main__":
    unittest.main()
