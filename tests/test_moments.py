"""Point 15, and what 4 (a), (b) and (c) say of it: moments and their faults."""

import random
import unittest
from itertools import permutations, product

from heardapart.books import roads_between, turned_pairs
from heardapart.errors import NoMoment
from heardapart.moments import comes_by, fault_of, history_of, is_moment, what_lies
from heardapart.webs import way_between

from tests.moment_trials import LINE, all_mouths, drawn_moments, fault_by_words, line_moment, moments_by_trial, \
    pair_moment, sides_by_trial, small_webs
from tests.odd import odd_things
from tests.plain_nets import all_reached, drawn_nets, plain_net_of
from tests.trials import error_of


def is_empty(thing, kind):
    return type(thing) is kind and len(thing) == 0


class IsMoment(unittest.TestCase):
    def test_moments_of_nets(self):
        for moment, _ in drawn_moments(100):
            self.assertIs(True, is_moment(moment))

    def test_moments_with_a_fault_and_with_words_that_nobody_shouted(self):
        self.assertIs(True, is_moment(((["a"], []), {}, {"a": []})))
        self.assertIs(True, is_moment((LINE, {}, {"a": [], "b": [], "c": []})))
        self.assertIs(True, is_moment(line_moment("", "", "")))
        self.assertIs(True, is_moment(line_moment("zyx", "xyz", "xzy")))
        self.assertIs(True, is_moment(line_moment("y", "", "")))

    def test_hands_roads_and_dicts_in_any_order(self):
        for hands, roads in product(permutations("abc"), permutations([("a", "b"), ("b", "c")])):
            books = {hand: ["x"] for hand in hands}
            self.assertIs(True, is_moment(((list(hands), list(roads)), {"x": "b"}, books)))

    def assert_none_is(self, things):
        for k, thing in enumerate(things):
            with self.subTest(k):
                self.assertIs(False, is_moment(thing))

    def test_other_forms(self):
        web, mouths, books = line_moment("xz", "zx", "y")
        self.assertIs(True, is_moment((web, mouths, books)))
        self.assert_none_is([(web, mouths), (web, mouths, books, {}), [web, mouths, books], (web, books, mouths),
                             (mouths, web, books), {0: web, 1: mouths, 2: books}, None, (), [], {}, "", "abc"])

    def test_other_webs(self):
        (hands, roads), mouths, books = line_moment("xz", "zx", "y")
        webs = [[hands, roads], (tuple(hands), roads), (hands, roads[:1]), (hands + ["d"], roads),
                (hands, tuple(roads)), (["a", "b"], [("a", "b")]), (hands, roads + [("a", "c")]),
                (hands, [("b", "a"), ("b", "c")])]
        self.assert_none_is([(web, mouths, books) for web in webs])

    def test_other_mouths(self):
        web, mouths, books = line_moment("xz", "zx", "y")
        self.assertIs(True, is_moment((web, {**mouths, "w": "a"}, books)))
        more = [{"w": "d"}, {"w": "x"}, {"w": None}, {"w": ["a"]}, {"W": "a"}, {"": "a"}, {1: "a"}, {"abcdefghi": "a"},
                {"x": "A"}, {("x",): "a"}, {None: "a"}]
        self.assert_none_is([(web, {**mouths, **one}, books) for one in more])
        others = [{"x": "a", "z": "b"}, {}, list(mouths.items()), list(mouths)]
        self.assert_none_is([(web, other, books) for other in others])

    def test_other_books(self):
        web, mouths, books = line_moment("xz", "zx", "y")
        last = [["w"], ["y", "y"], "y", ("y",), None, {"y": 0}, [["y"]], ["a"], ["y", 1], ["Y"]]
        self.assert_none_is([(web, mouths, {**books, "c": book}) for book in last])
        more = [{}, {"a": [], "b": []}, {**books, "d": []}, {"a": [], "b": [], "d": []}, {"a": [], "b": [], None: []},
                {"a": [], "b": [], 1: []}, list(books.items()), list(books.values())]
        self.assert_none_is([(web, mouths, one) for one in more])

    def test_anything(self):
        for k, thing in enumerate(odd_things() + [["q"]]):
            with self.subTest(k):
                for wrong in things_within(thing):
                    self.assertIs(False, is_moment(wrong))
                    self.assertIs(NoMoment, error_of(fault_of, wrong))

    def test_anything_for_a_book_or_for_the_mouths(self):
        web, mouths, books = line_moment("xz", "zx", "y")
        for k, thing in enumerate(odd_things() + [[]]):
            with self.subTest(k):
                self.assertIs(is_empty(thing, list), is_moment((web, mouths, {**books, "c": thing})))
                self.assertIs(False, is_moment((web, thing, books)))
                self.assertIs(is_empty(thing, dict), is_moment((web, thing, {"a": [], "b": [], "c": []})))

    def test_odd_keys(self):
        web, mouths, books = line_moment("xz", "zx", "y")
        keys = [key for thing in odd_things() if type(thing) is dict for key in thing if type(key) is not str]
        self.assertTrue(keys)
        for k, key in enumerate(keys):
            with self.subTest(k):
                self.assertIs(False, is_moment((web, {key: "a", **mouths}, books)))
                self.assertIs(False, is_moment((web, mouths, {key: [], "b": ["x"], "c": []})))
                self.assertIs(False, is_moment((web, {key: "a"}, {"a": [], "b": [], "c": []})))

    def test_no_moment_comes_first(self):
        for k, thing in enumerate(odd_things() + [[], line_moment("q", "", ""), line_moment("xx", "", "")]):
            with self.subTest(k):
                for call in (fault_of, what_lies, history_of):
                    self.assertIs(NoMoment, error_of(call, thing))
                self.assertIs(NoMoment, error_of(comes_by, thing, thing))
                self.assertIs(NoMoment, error_of(comes_by, thing, []))


class Faults(unittest.TestCase):
    def test_all_books_of_small_webs_against_all_that_can_be_reached(self):
        for web, words in small_webs():
            for mouths in all_mouths(web[0], words):
                self.assert_faultless_where_reached(web, mouths)

    def test_all_books_of_three_hands_and_three_words(self):
        for web in (LINE, (["b", "c", "a"], [("a", "c"), ("b", "c")])):
            for mouths in ({"x": "a", "y": "c", "z": "a"}, {"x": "a", "y": "b", "z": "c"}):
                self.assert_faultless_where_reached(web, mouths)

    def assert_faultless_where_reached(self, web, mouths):
        sides = sides_by_trial(web)
        reached = {repr(sorted(net.books.items())) for net in all_reached(plain_net_of(web), mouths)}
        for moment in moments_by_trial(web, mouths):
            fault = fault_of(moment)
            self.assertEqual(fault_by_words(moment, sides), fault)
            self.assertIs(repr(sorted(moment[2].items())) in reached, fault is None)

    def test_words_heard_otherwise_than_they_were_sent(self):
        mouths = {"x": "a", "y": "a", "z": "a", "v": "b"}
        for a, b, wanted in (("xyz", "xyz", None), ("xyz", "xy", None), ("xyz", "", None), ("", "", None),
                             ("xyz", "xz", ("a", "b", "z", None)), ("xyz", "yx", ("a", "b", "y", None)),
                             ("xyz", "xzy", ("a", "b", "z", None)), ("xy", "xyz", ("a", "b", "z", None)),
                             ("", "z", ("a", "b", "z", None)), ("x", "vzx", ("a", "b", "z", None)),
                             ("v", "", ("b", "a", "v", None)), ("vx", "z", ("a", "b", "z", None)),
                             ("xvy", "xvy", None), ("xvy", "vxy", None), ("xyv", "vxy", None), ("xy", "vxy", None)):
            self.assertEqual(wanted, fault_of(pair_moment(mouths, a, b)))

    def test_words_that_cross_the_wrong_way_about(self):
        mouths = {"x": "a", "y": "a", "v": "b", "w": "b"}
        for a, b, wanted in (("vx", "xv", ("a", "b", "x", "v")), ("vwxy", "xyvw", ("a", "b", "x", "v")),
                             ("xvy", "xyv", ("a", "b", "y", "v")), ("xvyw", "xyvw", ("a", "b", "y", "v")),
                             ("vxw", "xvw", ("a", "b", "x", "v")), ("wvx", "xvw", ("a", "b", "x", "v")),
                             ("xvwy", "vxyw", ("a", "b", "y", "w")), ("xvwy", "vxwy", None), ("xyvw", "vwxy", None),
                             ("xv", "xvw", None), ("xv", "vxw", None)):
            self.assertEqual(wanted, fault_of(pair_moment(mouths, a, b)))

    def test_the_least_lane(self):
        for moment, wanted in ((line_moment("y", "x", "z"), ("a", "b", "x", None)),
                               (line_moment("xy", "", "zxy"), ("b", "a", "y", None)),
                               (line_moment("x", "xyz", "xz"), ("c", "b", "y", None)),
                               (line_moment("x", "xy", "zx"), ("b", "c", "z", None)),
                               (line_moment("", "y", ""), ("c", "b", "y", None)),
                               (line_moment("x", "xzy", "yxz"), None),
                               (line_moment("x", "yzx", "zxy"), ("b", "c", "z", "y"))):
            self.assertEqual(wanted, fault_of(moment))

    def test_drawn_nets_have_none(self):
        for moment, _ in drawn_moments(150):
            self.assertIs(None, fault_of(moment))

    def test_drawn_nets_with_a_book_otherwise(self):
        for seed, (moment, _) in enumerate(drawn_moments(400)):
            rnd = random.Random(seed)
            web, mouths, books = moment
            sides = sides_by_trial(web)
            hand = rnd.choice(web[0])
            book = books[hand]
            k = rnd.randrange(max(1, len(book) - 1))
            for other in (book[:k] + book[k:k + 2][::-1] + book[k + 2:], book[:k] + book[k + 1:], book[::-1]):
                told = (web, mouths, {**books, hand: other})
                self.assertEqual(fault_by_words(told, sides), fault_of(told))


class Promise(unittest.TestCase):
    def test_turned_words_stand_ahead_at_their_own_mouths(self):
        for moment, _ in drawn_moments(150):
            _, mouths, books = moment
            for one, other in permutations(books, 2):
                for pair in turned_pairs(*with_like_words(books[one], books[other])):
                    for word in pair:
                        standing = [ahead for ahead in books[mouths[word]] if ahead in pair]
                        self.assertEqual(word, standing[0])

    def test_two_hands_are_as_far_apart_as_their_longest_turned_row(self):
        for moment, _ in drawn_moments(150):
            web, _, books = moment
            for one, other in permutations(books, 2):
                least = roads_between(*with_like_words(books[one], books[other]))
                self.assertLessEqual(least, len(way_between(web, one, other)) - 1)

    def test_along_any_way_the_turned_pairs_of_its_roads_are_those_of_its_ends(self):
        for seed in range(60):
            net, _ = drawn_nets(random.Random(seed), ["c", "a", "f", "d", "b", "e"], ["w", "z", "x", "y", "v"], 40)
            net.rest()
            web, mouths, books = net.moment()
            for one, other in permutations(web[0], 2):
                way = way_between(web, one, other)
                turned = [(pair, lane) for lane in zip(way, way[1:])
                          for pair in turned_pairs(books[lane[0]], books[lane[1]])]
                self.assertEqual(sorted(turned_pairs(books[one], books[other])), sorted(row[0] for row in turned))
                for (word, behind), lane in turned:
                    between = way_between(web, mouths[word], mouths[behind])
                    self.assertIn(lane, list(zip(between, between[1:])))


def with_like_words(book, other):
    """Two books of the words that both have."""
    return [word for word in book if word in other], [word for word in other if word in book]


def things_within(thing):
    """All that a moment can be with a thing in the place of one of its parts, but for its books and mouths."""
    web, mouths, books = line_moment("xz", "zx", "y")
    hands, roads = web
    return [thing, (thing, mouths, books), (web, mouths, thing), ((thing, roads), mouths, books),
            ((hands, thing), mouths, books), ((["a", "b", thing], roads), mouths, books),
            ((hands, [("a", "b"), thing]), mouths, books), ((hands, [("a", "b"), ("b", thing)]), mouths, books),
            (web, {**mouths, "w": thing}, books), (web, mouths, {**books, "c": [thing]}),
            (web, mouths, {**books, "c": ["y", thing]}), (web, mouths, {**books, "d": thing})]


if __name__ == "__main__":
    unittest.main()
