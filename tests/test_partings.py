"""Points 17 to 19, what point 20 says of when books were heard nowhere, and 4 (d): partings of given books."""

import random
import unittest
from itertools import combinations, permutations

from heardapart.books import longest_turned
from heardapart.errors import Cross, NoBooks, NoParting
from heardapart.partings import fewest_hands, pairs_of, partings_of, tree_places

from tests.odd import odd_things
from tests.parting_trials import all_given, books_of, cross_by_trial, drawn_given, fewest_by_webs, fewest_by_words, \
    has_behind, has_corners, has_paper, has_round, longest_by_trial, pairs_by_trial, partings_by_trial, places_by_trial
from tests.trials import error_of, some_names

HANDS = ["d", "g", "b", "e", "a", "h", "f", "c"]


def some_given():
    """Given books of many kinds, few of each."""
    told = list(all_given(1, "xyz")) + list(all_given(2, "xyz")) + list(all_given(3, "xyz"))
    for seed in range(120):
        rnd = random.Random(seed)
        names, words = rnd.randrange(3, 6), "wzxyv"[:rnd.randrange(3, 6)]
        told.append({name: rnd.sample(words, len(words)) for name in rnd.sample(HANDS, names)})
        told.append(drawn_given(rnd, HANDS, list("wzxyv"), 5)[0])
        told.append(drawn_given(rnd, HANDS[:5], list("zxyv"), 3)[0])
    return told


class Partings(unittest.TestCase):
    def test_by_a_look_at_all_names_and_words(self):
        for books in some_given():
            partings = partings_by_trial(books)
            self.assertEqual(partings, partings_of(books))
            for parting in partings:
                self.assertEqual(pairs_by_trial(books, parting), pairs_of(books, parting))

    def test_each_pair_is_turned_by_one_parting_or_by_none(self):
        for books in some_given():
            found = [pair for parting in partings_of(books) for pair in pairs_of(books, parting)]
            book = books[min(books)]
            turned = [(a, b) for a, b in combinations(book, 2)
                      if any(other.index(a) > other.index(b) for other in books.values())]
            self.assertEqual(sorted(turned), sorted(found))

    def test_a_small_one(self):
        books = {"me": ["x", "y", "z"], "you": ["y", "x", "z"], "all": ["z", "y", "x"]}
        self.assertEqual([(["all"], ["me", "you"]), (["all", "you"], ["me"])], partings_of(books))
        self.assertEqual([("z", "y"), ("z", "x")], pairs_of(books, (["all"], ["me", "you"])))
        self.assertEqual([("y", "x")], pairs_of(books, (["all", "you"], ["me"])))

    def test_in_order(self):
        books = books_of("xyz", "yxz", "xzy", "zyx")
        told = partings_of(books)
        self.assertEqual(sorted(told), told)
        self.assertEqual([(["a", "b"], ["c", "d"]), (["a", "b", "c"], ["d"]), (["a", "c"], ["b", "d"])], told)
        for one, other in told:
            self.assertEqual((sorted(one), sorted(other), "a"), (one, other, one[0]))

    def test_none(self):
        for rows in (["xyz"], [""], ["", "", ""], ["x", "x"], ["xy", "xy", "xy"]):
            self.assertEqual([], partings_of(books_of(*rows)))

    def test_twelve_names_of_twenty_words(self):
        words = some_names(20)
        for seed in range(4):
            rnd = random.Random(seed)
            books = {name: rnd.sample(words, 20) for name in some_names(12)}
            if seed == 0:
                books = {name: words if k % 3 else words[::-1] for k, name in enumerate(books)}
            names = sorted(books)
            partings = partings_of(books)
            self.assertEqual(sorted(partings), partings)
            pairs = [(a, b) for parting in partings for a, b in pairs_of(books, parting)]
            self.assertEqual(190 if seed == 0 else len({frozenset(pair) for pair in pairs}), len(pairs))
            for one, other in partings:
                for a, b in pairs_of(books, (one, other)):
                    self.assertEqual(one, [name for name in names if books[name].index(a) < books[name].index(b)])
                    self.assertEqual(other, [name for name in names if name not in one])
            self.assertEqual(None if seed else 30, fewest_hands(books))


class Trees(unittest.TestCase):
    def test_places_by_a_trial_of_all_choices(self):
        crossed = 0
        for books in some_given():
            partings = partings_by_trial(books)
            if cross_by_trial(partings):
                crossed += 1
                self.assertIs(Cross, error_of(tree_places, books))
            else:
                told = tree_places(books)
                self.assertEqual(places_by_trial(partings), told)
                self.assertEqual(len(partings) + 1, len(told))
        self.assertTrue(20 < crossed < 200, crossed)

    def test_no_parting(self):
        for books in (books_of("xyz"), books_of(""), books_of("", ""), books_of("xy", "xy", "xy")):
            self.assertEqual([[]], tree_places(books))

    def test_a_place_without_a_name(self):
        books = books_of("xyz", "yxz", "xzy")
        self.assertEqual([[["a", "b"], ["a", "c"]], [["a", "b"], ["b"]], [["c"], ["a", "c"]]], tree_places(books))
        books = books_of("xwyz", "wyxz", "wxzy")
        a, b, c = ["a"], ["b"], ["c"]
        self.assertEqual([(a, b + c), (a + b, c), (a + c, b)], partings_of(books))
        self.assertEqual([[a, a + b, a + c], [b + c, a + b, a + c], [b + c, a + b, b], [b + c, c, a + c]],
                         tree_places(books))
        self.assertEqual(4, fewest_hands(books))

    def test_a_tree_is_told_where_books_were_heard_nowhere_without_corners(self):
        for books in (books_of("xyz", "yzx", "zxy"), books_of("vwu", "uwv", "uvw")):
            self.assertIs(None, fewest_hands(books))
            self.assertEqual(places_by_trial(partings_by_trial(books)), tree_places(books))

    def test_two_partings_that_cross(self):
        self.assertIs(Cross, error_of(tree_places, books_of("abcd", "bacd", "abdc", "badc")))
        self.assertIs(None, error_of(tree_places, books_of("abcd", "bacd", "abdc")))

    def test_twelve_names_of_twenty_words(self):
        words = some_names(20)
        for seed in range(6):
            rnd = random.Random(seed)
            books, stood = drawn_given(rnd, some_names(24), words, 12)
            partings = partings_of(books)
            places = tree_places(books)
            self.assertEqual(len(partings) + 1, len(places))
            self.assertEqual(sorted(places), places)
            self.assertEqual(len(places), len({repr(place) for place in places}))
            for place in places:
                self.assertTrue(all(names in parting for names, parting in zip(place, partings, strict=True)))
                self.assertTrue(all(set(one) & set(other) for one, other in combinations(place, 2)))
            self.assertTrue(12 <= fewest_hands(books) <= stood)


class Fewest(unittest.TestCase):
    def test_by_the_words_of_the_document(self):
        found = []
        for books in some_given():
            found.append(fewest_by_words(books))
            self.assertEqual(found[-1], fewest_hands(books))
        self.assertTrue(found.count(None) > 50)
        self.assertTrue({1, 2, 3, 4, 5} <= set(found))

    def test_by_a_trial_of_all_webs(self):
        for names, words, most in ((1, "xyz", 2), (2, "xyz", 3), (3, "xyz", 4), (2, "wxyz", 4)):
            for books in all_given(names, words):
                self.assertEqual(fewest_by_webs(books, most), fewest_hands(books))

    def test_some_by_a_trial_of_all_webs(self):
        for books, wanted in ((books_of("xyz", "yxz", "xzy", "xyz"), 4), (books_of("xyz", "zyx", "zyx", "xyz"), 5),
                              (books_of("xyz", "yxz", "zxy", "xyz"), 4), (books_of("xwyz", "wyxz", "wxzy"), 4),
                              (books_of("xyz", "yxz", "xzy", "yzx"), None), (books_of("xwzy", "wxzy", "xwyz"), 3)):
            self.assertEqual(wanted, fewest_by_webs(books, wanted or 4))
            self.assertEqual(wanted, fewest_hands(books))

    def test_none_just_where_a_paper_shows_it(self):
        for books in list(all_given(3, "xyz")) + list(all_given(4, "xyz"))[::3]:
            self.assertIs(has_paper(books), fewest_hands(books) is None)

    def test_each_of_the_papers_alone(self):
        corners = books_of("abcd", "bacd", "abdc", "badc")
        around = books_of("abc", "bca", "cab")
        behind = books_of("vwu", "uwv", "uvw")
        for books, wanted in ((corners, "corners"), (around, "round"), (behind, "behind"),
                              (books_of("cba", "acb", "bac"), "round"), (books_of("uwv", "vwu", "vuw"), "behind")):
            shown = {"corners": has_corners(books), "round": has_round(books), "behind": has_behind(books)}
            self.assertEqual([wanted], [kind for kind in shown if shown[kind]])
            for names in permutations(books):
                told = {one: books[other] for one, other in zip(books, names)}
                self.assertIs(None, fewest_hands(told))
            for name in books:
                fewer = {one: books[one] for one in books if one != name}
                self.assertIsNot(None, fewest_hands(fewer))

    def test_books_of_nets_could_have_been_heard(self):
        for seed in range(200):
            books, stood = drawn_given(random.Random(seed), HANDS, list("vwxyz"), 5)
            self.assertLessEqual(fewest_hands(books), stood)
            self.assertGreaterEqual(fewest_hands(books), len(books))

    def test_one_name_and_names_with_like_books(self):
        words = some_names(20)
        self.assertEqual(1, fewest_hands({"a": []}))
        self.assertEqual(1, fewest_hands({"a": words}))
        self.assertEqual(12, fewest_hands({name: list(words) for name in some_names(12)}))
        self.assertEqual(12, fewest_hands({name: [] for name in some_names(12)}))
        self.assertEqual(4, fewest_hands(books_of("xy", "yx", "yx", "xy")))

    def test_two_books_need_as_many_hands_as_their_longest_turned_row(self):
        for books in all_given(2, "wxyz"):
            row = longest_turned(books["a"], books["b"])
            self.assertEqual(max(2, len(row)), fewest_hands(books))
        words = some_names(20)
        self.assertEqual(20, fewest_hands({"a": words, "b": words[::-1]}))

    def test_long_rows(self):
        words = some_names(8)
        books = {"a": words, "b": words[3::-1] + words[4:], "c": words[:4] + words[:3:-1]}
        self.assertEqual(3 + 2 + 2, fewest_hands(books))
        books["d"] = words[3::-1] + words[:3:-1]
        self.assertIs(None, fewest_hands(books))
        books["a"] = books["d"]
        self.assertEqual(fewest_by_words(books), fewest_hands(books))
        self.assertEqual([4, 4], [longest_by_trial(books, parting) for parting in partings_of(books)])


class Refusals(unittest.TestCase):
    def setUp(self):
        self.books = {"one": ["x", "y"], "two": ["y", "x"], "zoe": ["x", "y"]}
        self.parting = (["one", "zoe"], ["two"])

    def assert_no_books(self, thing):
        for call in (partings_of, tree_places, fewest_hands):
            self.assertIs(NoBooks, error_of(call, thing))
        for parting in (self.parting, None, thing):
            self.assertIs(NoBooks, error_of(pairs_of, thing, parting))

    def test_anything(self):
        for k, thing in enumerate(odd_things() + [[]]):
            with self.subTest(k):
                if not (type(thing) is dict and len(thing) == 0):
                    self.assert_no_books(thing)
                self.assert_no_books({"one": thing, "two": ["y"]})
                self.assert_no_books({"two": ["y"], "one": thing})
                self.assert_no_books({"one": [thing]})
                self.assert_no_books({"one": ["x", thing]})
                self.assert_no_books({**self.books, "one": ["x", thing]})
                self.assert_no_books([thing])
                self.assert_no_books((self.books, thing))

    def test_odd_names(self):
        keys = [key for thing in odd_things() if type(thing) is dict for key in thing if type(key) is not str]
        for key in keys + ["", "A", "abcdefghi", "a b", 1, None, ("a",)]:
            self.assert_no_books({key: ["x"]})
            self.assert_no_books({key: ["x"], "one": ["x"]})
            self.assert_no_books({"one": ["x"], key: ["x"]})

    def test_books_that_are_not_as_they_should_be(self):
        words = some_names(21)
        for thing in ({}, {"one": ["x", "x"]}, {"one": ["x"], "two": ["y"]}, {"one": ["x"], "two": []},
                      {"one": ["x"], "two": ["x", "y"]}, {"one": ("x",)}, {"one": "x"}, {"one": {"x": 0}},
                      {"one": None}, {"one": ["X"]}, {"one": words}, {"one": words[:20], "two": words[1:]},
                      {name: [] for name in some_names(13)}, [("one", ["x"])], [["x"], ["x"]], ["one"], {"one"}):
            self.assert_no_books(thing)
        for thing in ({"one": words[:20]}, {name: [] for name in some_names(12)}, {"abcdefgh": ["abcdefgh"]}):
            self.assertIs(None, error_of(partings_of, thing))

    def test_no_parting(self):
        one, other = self.parting
        self.assertEqual([("x", "y")], pairs_of(self.books, self.parting))
        for thing in ((other, one), [one, other], (one,), (one, other, []), (one[::-1], other), (one[:1], other),
                      (one, other + ["zoe"]), (one, []), (["one"], ["two", "zoe"]), (tuple(one), other),
                      (one, tuple(other)), (one, "two"), (one, {"two": 0}), (one, [["two"]]), (one, [None]),
                      ([], one + other), (one + ["new"], other), (one, None), "one", 0):
            self.assertIs(NoParting, error_of(pairs_of, self.books, thing))

    def test_anything_is_no_parting(self):
        one, other = self.parting
        for k, thing in enumerate(odd_things() + [[], ["two"]]):
            with self.subTest(k):
                for wrong in (thing, [thing], (thing, other), (thing, thing), (one, [thing]), (one, other + [thing]),
                              (["one", thing], other), (one, other, thing)):
                    self.assertIs(NoParting, error_of(pairs_of, self.books, wrong))
                if not (type(thing) is list and len(thing) == 1 and thing[0] is other[0]):
                    self.assertIs(NoParting, error_of(pairs_of, self.books, (one, thing)))
                self.assertIs(NoParting, error_of(pairs_of, books_of("xyz"), thing))


class Order(unittest.TestCase):
    def test_nothing_hangs_on_the_order_in_which_the_dict_was_filled(self):
        for seed, books in enumerate(some_given()[::3]):
            rnd = random.Random(seed)
            other = {name: books[name] for name in rnd.sample(sorted(books), len(books))}
            self.assertEqual(partings_of(books), partings_of(other))
            self.assertEqual(fewest_hands(books), fewest_hands(other))
            for parting in partings_of(books):
                self.assertEqual(pairs_of(books, parting), pairs_of(other, parting))
            if not cross_by_trial(partings_of(books)):
                self.assertEqual(tree_places(books), tree_places(other))


if __name__ == "__main__":
    unittest.main()
