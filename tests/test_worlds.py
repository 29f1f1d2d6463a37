"""Points 20 and 21, and 4 (d): worlds and papers of given books, how far names are apart, where mouths can be."""

import random
import time
import unittest

from heardapart.errors import NoBooks, NoName, NoWord
from heardapart.moments import comes_by, fault_of, history_of, is_moment
from heardapart.partings import fewest_hands, tree_places
from heardapart.worlds import is_paper, is_world, least_apart, mouths_of, world_or_paper

from tests.moment_trials import fault_by_words, sides_by_trial
from tests.odd import odd_things
from tests.parting_trials import all_given, books_of, drawn_given, has_behind, has_corners, has_paper, has_round
from tests.trials import error_of, some_names
from tests.world_trials import all_worlds, apart_by_trial, apart_by_words, bent, is_turned_about, is_world_by_words, \
    mouths_by_trial, mouths_by_words, otherwise

HANDS = ["d", "g", "b", "e", "a", "h", "f", "c"]
WORDS = ["v", "z", "x", "y", "w", "u"]
CORNERS = books_of("abcd", "bacd", "abdc", "badc")
ROUND = books_of("abc", "bca", "cab")
BEHIND = books_of("vwu", "uwv", "uvw")


def drawn_books():
    """Books that were heard in drawn webs, the same bent and turned about, and books that are drawn themselves."""
    for seed in range(120):
        rnd = random.Random(seed)
        heard, _ = drawn_given(rnd, HANDS, WORDS[:rnd.randrange(1, 7)], rnd.randrange(1, 7))
        yield heard
        yield bent(rnd, heard)
        yield bent(rnd, bent(rnd, heard))
        yield is_turned_about(heard)
        words = WORDS[:rnd.randrange(7)]
        yield {name: rnd.sample(words, len(words)) for name in rnd.sample(HANDS, rnd.randrange(1, 6))}


def small_books():
    """All books of few names and words."""
    for names, words in ((1, "xyz"), (2, "wxyz"), (3, "xyz"), (4, "xyz")):
        yield from all_given(names, words)


class WorldsAndPapers(unittest.TestCase):
    def assert_world(self, books, told):
        self.assertEqual((tuple, 2, "world"), (type(told), len(told), told[0]))
        web, mouths, whole = told[1]
        self.assertIs(True, is_moment(told[1]))
        self.assertIs(None, fault_of(told[1]))
        self.assertEqual(sorted(books[min(books)]), sorted(mouths))
        self.assertEqual(books, {name: whole[name] for name in books})
        self.assertEqual({tuple(sorted(mouths))}, {tuple(sorted(book)) for book in whole.values()})
        self.assertEqual(fewest_hands(books), len(web[0]))
        self.assertIs(True, is_world(books, told[1]))

    def assert_paper(self, books, told):
        wanted = {"corners": has_corners, "round": has_round, "behind": has_behind}
        self.assertTrue(wanted[told[0]](books))
        self.assertIs(True, is_paper(books, told))
        self.assertIs(None, fewest_hands(books))

    def assert_one_of_both(self, books):
        told = world_or_paper(books)
        if has_paper(books):
            self.assert_paper(books, told)
        else:
            self.assert_world(books, told)
        return told[0]

    def test_all_small_books(self):
        kinds = [self.assert_one_of_both(books) for books in small_books()]
        self.assertEqual({"world", "round", "behind", "corners"}, set(kinds))

    def test_drawn_books(self):
        kinds = [self.assert_one_of_both(books) for books in drawn_books()]
        self.assertTrue(min(kinds.count(kind) for kind in ("world", "behind", "corners")) > 20)

    def test_books_heard_in_drawn_webs_have_a_world(self):
        for seed in range(150):
            rnd = random.Random(seed)
            books, stood = drawn_given(rnd, some_names(16), some_names(9), rnd.randrange(1, 9))
            told = world_or_paper(books)
            self.assert_world(books, told)
            self.assertLessEqual(len(told[1][0][0]), stood)
            self.assertIs(True, comes_by(told[1], history_of(told[1])))

    def test_worlds_have_no_fault_by_the_words_of_the_document(self):
        for books in list(drawn_books())[::7]:
            told = world_or_paper(books)
            if told[0] == "world":
                self.assertIs(None, fault_by_words(told[1], sides_by_trial(told[1][0])))

    def test_a_world_just_where_a_trial_of_all_webs_finds_one(self):
        for books in list(all_given(3, "xyz")) + list(all_given(2, "xyz")):
            few = fewest_hands(books)
            found = [world for world in all_worlds(books, few or 4)]
            self.assertIs(few is not None, found != [])
            if few is not None and few > len(books):
                self.assertEqual([], list(all_worlds(books, few - 1)))

    def test_each_of_the_papers(self):
        self.assertEqual("corners", world_or_paper(CORNERS)[0])
        self.assertEqual("round", world_or_paper(ROUND)[0])
        self.assertEqual("behind", world_or_paper(BEHIND)[0])
        self.assertEqual(("behind", ("w", "u", "v"), ("a", "b", "c")), behind_of(world_or_paper(BEHIND)))
        kind, pair, other, names = world_or_paper(CORNERS)
        self.assertEqual({("a", "b"), ("c", "d")}, {tuple(sorted(pair)), tuple(sorted(other))})
        self.assertEqual(["a", "b", "c", "d"], sorted(names))

    def test_each_with_one_book_less_has_a_world(self):
        for books in (CORNERS, ROUND, BEHIND):
            for name in books:
                fewer = {one: books[one] for one in books if one != name}
                self.assert_world(fewer, world_or_paper(fewer))

    def test_names_with_like_books_and_books_without_words(self):
        for books in (books_of(""), books_of("x"), books_of("", "", ""), books_of("xyz", "xyz", "xyz"),
                      books_of("xyz", "yxz", "yxz", "xyz"), books_of("xyz", "zyx", "zyx", "xyz")):
            self.assert_world(books, world_or_paper(books))

    def test_places_without_names_and_long_rows(self):
        self.assert_world(books_of("xwyz", "wyxz", "wxzy"), world_or_paper(books_of("xwyz", "wyxz", "wxzy")))
        words = some_names(20)
        halves = {"a": words, "b": words[9::-1] + words[10:], "c": words[:10] + words[:9:-1]}
        for books, many in (({"a": words, "b": words[::-1]}, 20), (halves, 3 + 8 + 8)):
            told = world_or_paper(books)
            self.assert_world(books, told)
            self.assertEqual(many, len(told[1][0][0]))

    def test_new_hands_have_names_of_their_own(self):
        words = some_names(20)
        names = ["aa", "ab", "zz", "zy", "a", "z", "az", "za"]
        for one in names:
            for other in names:
                if one != other:
                    books = {one: words, other: words[::-1]}
                    self.assert_world(books, world_or_paper(books))

    def test_twelve_names_of_twenty_words(self):
        words = some_names(20)
        for seed in range(12):
            rnd = random.Random(seed)
            heard, _ = drawn_given(rnd, some_names(30), words, 12)
            drawn = {name: rnd.sample(words, 20) for name in some_names(12)}
            start = time.monotonic()
            self.assert_world(heard, world_or_paper(heard))
            self.assert_paper(drawn, world_or_paper(drawn))
            for books in (heard, drawn):
                least_apart(books, min(books), max(books))
                mouths_of(books, words[3])
            self.assertLess(time.monotonic() - start, 4)

    def test_twelve_names_far_apart(self):
        words = some_names(20)
        books = {name: words[:k] + [words[k + 1], words[k]] + words[k + 2:]
                 for k, name in zip(range(0, 20, 2), some_names(12))}
        self.assert_world(books, world_or_paper(books))
        # Ten names, each by a parting of its own beside the one place without a name.
        self.assertEqual(11, fewest_hands(books))

    def test_nothing_hangs_on_the_order_in_which_the_dict_was_filled(self):
        for seed, books in enumerate(drawn_books()):
            rnd = random.Random(seed)
            other = {name: books[name] for name in rnd.sample(sorted(books), len(books))}
            told = world_or_paper(books)
            self.assertEqual(repr(told), repr(world_or_paper(other)))
            self.assertEqual(least_apart(books, min(books), max(books)), least_apart(other, min(books), max(books)))
            for word in books[min(books)]:
                self.assertEqual(mouths_of(books, word), mouths_of(other, word))


def behind_of(paper):
    """A paper of a word behind, with the least of the forms that say the same."""
    kind, (w, u, v), (one, two, three) = paper
    return min(paper, (kind, (w, v, u), (two, one, three)))


class Worlds(unittest.TestCase):
    def test_one_thing_otherwise(self):
        for books in (books_of("xyz", "yxz", "xzy"), books_of("xwyz", "wyxz"), books_of("xyz"), books_of("xyz", "zyx")):
            moment = world_or_paper(books)[1]
            self.assertIs(True, is_world(books, moment))
            found = [is_world_by_words(books, other) for other in otherwise(moment)]
            self.assertEqual(found, [is_world(books, other) for other in otherwise(moment)])
            self.assertIn(False, found)

    def test_all_worlds_of_small_webs(self):
        for books in (books_of("xyz", "yxz", "xzy"), books_of("xy", "yx"), books_of("xyz", "zyx")):
            for many in range(len(books), 5):
                for moment in list(all_worlds(books, many))[::3]:
                    self.assertIs(True, is_world(books, moment))
                    less = {name: books[name] for name in sorted(books)[:-1]}
                    self.assertIs(True, is_world(less, moment))
                    more = {**books, "new": books["a"]}
                    self.assertIs(False, is_world(more, moment))
                    other = {**books, "a": books["a"][::-1]}
                    self.assertIs(False, is_world(other, moment))

    def test_however_many_hands(self):
        books = books_of("xyz", "yxz")
        (hands, roads), mouths, whole = world_or_paper(books)[1]
        hundred = some_names(98)
        roads = roads + [tuple(sorted((a, b))) for a, b in zip(["a"] + hundred, hundred)]
        moment = (hands + hundred, roads), mouths, {**whole, **{hand: whole["a"] for hand in hundred}}
        self.assertIs(True, is_world(books, moment))
        moment[2][hundred[50]] = whole["b"]
        self.assertIs(False, is_world(books, moment))

    def test_moments_that_are_whole_or_not(self):
        books = books_of("xy", "yx")
        web = (["a", "b"], [("a", "b")])
        for mouths, wanted in (({"x": "a", "y": "b"}, True), ({"x": "b", "y": "a"}, False), ({"x": "a"}, False),
                               ({"x": "a", "y": "b", "z": "a"}, False), ({}, False), ({"x": "a", "y": "a"}, False)):
            self.assertIs(wanted, is_world(books, (web, mouths, {"a": ["x", "y"], "b": ["y", "x"]})))
        mouths = {"x": "a", "y": "b"}
        for a, b in (("x", "yx"), ("xy", "y"), ("", ""), ("yx", "xy"), ("xy", "xy")):
            self.assertIs(False, is_world(books, (web, mouths, {"a": list(a), "b": list(b)})))
        three = (["a", "b", "c"], [("a", "b"), ("a", "c")])
        for c, wanted in (("xy", True), ("yx", False), ("x", False), ("", False)):
            self.assertIs(wanted, is_world(books, (three, mouths, {"a": ["x", "y"], "b": ["y", "x"], "c": list(c)})))

    def test_a_web_in_any_order(self):
        books = books_of("xyz", "yxz", "xzy")
        (hands, roads), mouths, whole = world_or_paper(books)[1]
        turned = {word: mouths[word] for word in reversed(mouths)}, {hand: whole[hand] for hand in reversed(whole)}
        self.assertIs(True, is_world(books, ((hands[::-1], roads[::-1]), *turned)))

    def test_anything(self):
        books = books_of("xy", "yx")
        told = world_or_paper(books)
        web, mouths, whole = told[1]
        self.assertIs(False, is_world(books, told))
        self.assertIs(False, is_world(books, list(told[1])))
        for k, thing in enumerate(odd_things() + [[], {}, None]):
            with self.subTest(k):
                for wrong in (thing, (thing, thing, thing), (thing, mouths, whole), (web, thing, whole),
                              (web, mouths, thing), (web, mouths, {**whole, "a": thing}),
                              (web, {**mouths, "x": thing}, whole), (web, mouths, {**whole, "b": ["y", thing]}),
                              (web, mouths, whole, thing)):
                    self.assertIs(False, is_world(books, wrong))


class Apart(unittest.TestCase):
    def test_by_a_trial_of_all_small_webs(self):
        for books in list(all_given(3, "xyz")) + list(all_given(2, "xyz")):
            few = fewest_hands(books)
            worlds = [] if few is None else [world for many in (few, few + 1) if many < 5
                                             for world in all_worlds(books, many)]
            for one in books:
                for other in books:
                    wanted = None if few is None else apart_by_trial(one, other, worlds)
                    self.assertEqual(wanted, least_apart(books, one, other))

    def test_by_the_words_of_the_document(self):
        for books in list(drawn_books())[::2]:
            for one in books:
                for other in books:
                    wanted = None if has_paper(books) else apart_by_words(books, one, other)
                    self.assertEqual(wanted, least_apart(books, one, other))

    def test_small_ones(self):
        books = books_of("xyz", "zyx", "xyz", "yxz")
        told = [[least_apart(books, one, other) for other in books] for one in books]
        self.assertEqual([[0, 2, 1, 1], [2, 0, 2, 1], [1, 2, 0, 1], [1, 1, 1, 0]], told)
        self.assertEqual(0, least_apart(books_of(""), "a", "a"))
        self.assertEqual(1, least_apart(books_of("", ""), "a", "b"))
        self.assertEqual(19, least_apart({"a": some_names(20), "b": some_names(20)[::-1]}, "a", "b"))

    def test_none_where_there_is_no_web_even_of_one_name(self):
        for books in (CORNERS, ROUND, BEHIND):
            for one in books:
                for other in books:
                    self.assertIs(None, least_apart(books, one, other))


class Mouths(unittest.TestCase):
    def test_by_a_trial_of_all_small_webs(self):
        for names, words in ((1, "xyz"), (2, "xyz"), (3, "xyz")):
            for books in all_given(names, words):
                few = fewest_hands(books)
                worlds = [] if few is None else list(all_worlds(books, few))
                for word in words:
                    told = mouths_of(books, word)
                    if few is None:
                        self.assertIs(None, told)
                    else:
                        self.assertEqual(told[0] or [told[1]], mouths_by_trial(books, word, worlds))
                        self.assertIs(told[0] == [], told[1] is not None)

    def test_by_the_words_of_the_document(self):
        between = 0
        for books in drawn_books():
            for word in books[min(books)]:
                wanted = None if has_paper(books) else mouths_by_words(books, word)
                self.assertEqual(wanted, mouths_of(books, word))
                between += wanted is not None and wanted[1] is not None
        self.assertTrue(between > 20)

    def test_small_ones(self):
        books = books_of("xyz", "zyx")
        parting = (["a"], ["b"])
        self.assertEqual(([[["a"]]], None), mouths_of(books, "x"))
        self.assertEqual(([], parting), mouths_of(books, "y"))
        self.assertEqual(([[["b"]]], None), mouths_of(books, "z"))
        self.assertEqual(([[["a"]], [["b"]]], None), mouths_of(books_of("xyz", "xzy"), "x"))
        self.assertEqual(([[]], None), mouths_of(books_of("xyz", "xyz"), "x"))

    def test_places_are_those_of_the_tree(self):
        for books in drawn_books():
            if not has_paper(books):
                for word in books[min(books)]:
                    places, parting = mouths_of(books, word)
                    self.assertEqual([place for place in tree_places(books) if place in places], places)

    def test_none_where_there_is_no_web(self):
        for books in (CORNERS, ROUND, BEHIND):
            for word in books["a"]:
                self.assertIs(None, mouths_of(books, word))


class Refusals(unittest.TestCase):
    def setUp(self):
        self.books = books_of("xy", "yx", "xy")

    def assert_no_books(self, thing):
        for rest in ((None, None), ("a", "b"), (thing, thing)):
            self.assertIs(NoBooks, error_of(least_apart, thing, *rest))
        for rest in (None, "x", thing, (), world_or_paper(ROUND), world_or_paper(self.books)[1]):
            for call in (is_paper, is_world, mouths_of):
                self.assertIs(NoBooks, error_of(call, thing, rest))
        self.assertIs(NoBooks, error_of(world_or_paper, thing))

    def test_no_books(self):
        for k, thing in enumerate(odd_things() + [[], {}]):
            with self.subTest(k):
                for wrong in (thing, {"a": thing, "b": ["x", "y"]}, {"b": ["x", "y"], "a": thing}, {"a": ["x", thing]},
                              [thing]):
                    if not (type(thing) is list and thing == [] and wrong is not thing):
                        self.assert_no_books(wrong)
        words = some_names(21)
        for wrong in ({"a": words}, {name: ["x"] for name in some_names(13)}, {"a": ["x"], "b": ["y"]},
                      {"a": ["x", "x"]}, {"a": ["x"], "b": []}, {"A": ["x"]}, {"a": ("x",)}, {1: ["x"]}):
            self.assert_no_books(wrong)

    def test_twelve_and_twenty_are_not_too_many(self):
        words = some_names(20)
        books = {name: words for name in some_names(12)}
        self.assertEqual("world", world_or_paper(books)[0])
        self.assertEqual(1, least_apart(books, "aa", "al"))

    def test_no_name(self):
        for thing in odd_things() + ["x", "d", "new", ["a"], ("a",)]:
            for books in (self.books, CORNERS, ROUND):
                if type(thing) is str and thing in books:
                    continue
                self.assertIs(NoName, error_of(least_apart, books, thing, "a"))
                self.assertIs(NoName, error_of(least_apart, books, "a", thing))
                self.assertIs(NoName, error_of(least_apart, books, thing, thing))

    def test_no_word(self):
        for thing in odd_things() + ["zz", "new", ["x"], ("x",)]:
            for books in (self.books, BEHIND, books_of("")):
                self.assertIs(NoWord, error_of(mouths_of, books, thing))
        self.assertIs(NoWord, error_of(mouths_of, self.books, "a"))


if __name__ == "__main__":
    unittest.main()
