"""Point 16, and what 4 (a) says of it: what lies in a moment, and histories."""

import random
import unittest
from itertools import permutations, product

from heardapart.errors import Faulty
from heardapart.moments import comes_by, fault_of, history_of, what_lies

from tests.moment_trials import LINE, PAIR, all_deeds, all_mouths, drawn_moments, fault_by_words, led_to, \
    lies_by_words, line_moment, moments_by_trial, pair_moment, sides_by_trial, sides_of_a_line, small_webs
from tests.odd import odd_things
from tests.plain_nets import all_reached, net_of, plain_net_of
from tests.trials import error_of, line_web, some_names


def many_words(moment):
    return sum(len(book) for book in moment[2].values())


class WhatLies(unittest.TestCase):
    def test_nothing(self):
        self.assertEqual({}, what_lies(((["a"], []), {}, {"a": []})))
        self.assertEqual({}, what_lies(((["a"], []), {"x": "a"}, {"a": ["x"]})))
        self.assertEqual({}, what_lies(line_moment("", "", "")))
        self.assertEqual({}, what_lies(line_moment("xzy", "xzy", "yxz")))

    def test_each_list_is_in_order(self):
        mouths = {"z": "a", "x": "a", "y": "a", "w": "b"}
        self.assertEqual({("a", "b"): ["x", "y", "z"]}, what_lies(pair_moment(mouths, "zxy", "")))
        self.assertEqual({("a", "b"): ["x", "y"], ("b", "a"): ["w"]}, what_lies(pair_moment(mouths, "zyx", "wz")))

    def test_a_word_lies_on_the_lane_that_it_has_come_to(self):
        self.assertEqual({("a", "b"): ["x"], ("b", "c"): ["z"]}, what_lies(line_moment("xz", "z", "")))
        self.assertEqual({("b", "c"): ["x", "z"]}, what_lies(line_moment("xz", "zx", "")))

    def test_as_in_drawn_nets(self):
        for moment, lying in drawn_moments(150):
            told = what_lies(moment)
            self.assertEqual({lane: sorted(letters) for lane, letters in lying.items()}, told)
            self.assertEqual(lies_by_words(moment, sides_by_trial(moment[0])), told)

    def test_of_all_that_can_be_reached_by_small_webs(self):
        for web, words in small_webs():
            for mouths in all_mouths(web[0], words):
                for net in all_reached(plain_net_of(web), mouths):
                    lying = {lane: sorted(net.lanes[lane]) for lane in net.filled()}
                    self.assertEqual(lying, what_lies((web, mouths, net.books)))


class Histories(unittest.TestCase):
    def test_a_shout_and_its_hearings(self):
        moment = (LINE, {"x": "b", "y": "a"}, {"a": ["x"], "b": ["x"], "c": ["x"]})
        told = history_of(moment)
        self.assertEqual(("shout", "b", "x"), told[0])
        self.assertEqual([("hear", "b", "a", "x"), ("hear", "b", "c", "x")], sorted(told[1:]))
        self.assertIs(True, comes_by(moment, [told[0], told[2], told[1]]))
        self.assertEqual([], history_of((LINE, {"x": "b"}, {"a": [], "b": [], "c": []})))

    def test_histories_of_all_that_can_be_reached_lead_there(self):
        for web, words in small_webs():
            for mouths in all_mouths(web[0], words):
                for net in all_reached(plain_net_of(web), mouths):
                    self.assert_led_to((web, mouths, net.books))

    def test_histories_of_drawn_nets_lead_there(self):
        for moment, _ in drawn_moments(150):
            self.assert_led_to(moment)

    def assert_led_to(self, moment):
        web, mouths, books = moment
        history = history_of(moment)
        self.assertEqual(many_words(moment), len(history))
        self.assertEqual(books, led_to(web, mouths, history))
        self.assertIs(True, comes_by(moment, history))

    def test_faulty(self):
        for moment in (line_moment("y", "", ""), line_moment("", "x", ""), line_moment("zx", "xz", "")):
            self.assertIs(Faulty, error_of(what_lies, moment))
            self.assertIs(Faulty, error_of(history_of, moment))
            self.assertIs(tuple, type(fault_of(moment)))


class ComesBy(unittest.TestCase):
    def test_all_rows_of_deeds_of_two_hands(self):
        for mouths in ({"x": "a", "y": "b"}, {"x": "a", "y": "a"}, {"x": "b"}):
            deeds = all_deeds(PAIR, sorted(mouths))
            rows = [list(row) for many in range(5) for row in product(deeds, repeat=many)]
            ends = [(row, led_to(PAIR, mouths, row)) for row in rows]
            for moment in moments_by_trial(PAIR, mouths):
                for k, (row, books) in enumerate(ends):
                    # All that lead anywhere, and some of the many that lead nowhere.
                    if books is not None or k % 11 == 0:
                        self.assertIs(books == moment[2], comes_by(moment, row))

    def test_all_rows_of_as_many_deeds_for_some_books(self):
        for a, b in (("xy", "xy"), ("xy", "yx"), ("x", "yx"), ("yx", "xy")):
            moment = pair_moment({"x": "a", "y": "b"}, a, b)
            for row in product(all_deeds(PAIR, "xy"), repeat=len(a + b)):
                self.assertIs(led_to(PAIR, moment[1], row) == moment[2], comes_by(moment, list(row)))

    def test_all_orders_of_the_deeds_of_three_hands(self):
        for books in (("xy", "xy", "y"), ("x", "xy", "yx"), ("xy", "yx", "y")):
            moment = line_moment(*books)
            for row in permutations(history_of(moment)):
                self.assertIs(led_to(LINE, moment[1], row) == moment[2], comes_by(moment, list(row)))

    def test_one_deed_otherwise(self):
        moment = line_moment("xz", "xz", "yx")
        history = history_of(moment)
        self.assertIs(True, comes_by(moment, history))
        for k, deed in enumerate(history):
            self.assertIs(False, comes_by(moment, history[:k] + history[k + 1:]))
            self.assertIs(False, comes_by(moment, history[:k] + [deed] + history[k:]))
            self.assertIs(False, comes_by(moment, history[:k] + [history[k - 1]] + history[k + 1:]))
            others = [other for other in all_deeds(LINE, "xyz") if other != deed]
            for other in others + odd_things() + odd_deeds(deed):
                self.assertIs(False, comes_by(moment, history[:k] + [other] + history[k + 1:]))

    def test_anything_is_no_history(self):
        history = history_of(line_moment("x", "x", ""))
        for moment in (line_moment("", "", ""), line_moment("x", "x", ""), line_moment("", "z", ""),
                       ((["a"], []), {}, {"a": []})):
            self.assertIs(many_words(moment) == 0, comes_by(moment, []))
            for k, thing in enumerate(odd_things() + [(), {}, None, "", tuple(history), {0: history[0]}]):
                with self.subTest(k):
                    self.assertIs(False, comes_by(moment, thing))
                    self.assertIs(False, comes_by(moment, [thing]))
                    self.assertIs(False, comes_by(moment, [("shout", "a", "x"), thing]))
                    self.assertIs(False, comes_by(moment, [thing, ("hear", "a", "b", "x")]))

    def test_nothing_leads_to_a_moment_with_a_fault(self):
        moment = pair_moment({"x": "a", "y": "b"}, "yx", "xy")
        for row in product(all_deeds(PAIR, "xy"), repeat=4):
            self.assertIs(False, comes_by(moment, list(row)))
        moment = pair_moment({"x": "a"}, "", "x")
        for thing in ([("hear", "a", "b", "x")], [("shout", "b", "x")], [], None):
            self.assertIs(False, comes_by(moment, thing))


class Long(unittest.TestCase):
    def test_a_line_of_forty_hands_with_fifty_words(self):
        hands, words = some_names(40), some_names(50)
        net = net_of(plain_net_of(line_web(hands)))
        for k, word in enumerate(words):
            net.shout(hands[0] if k % 2 else hands[39], word)
            if k % 5 == 0:
                net.rest()
        lying = {(a, b): sorted(net.lane(a, b)) for a in hands for b in hands if net.lane(a, b)}
        self.assertEqual(lying, what_lies(net.moment()))
        net.rest()
        moment = net.moment()
        web, mouths, books = moment
        history = history_of(moment)
        self.assertEqual(2000, len(history))
        self.assertEqual(books, led_to(web, mouths, history))
        self.assertIs(True, comes_by(moment, history))
        self.assertEqual({}, what_lies(moment))
        self.assertIs(False, comes_by(moment, history[::-1]))
        self.assertIs(False, comes_by(moment, history[1:] + history[:1]))
        otherwise = (web, mouths, {**books, hands[20]: books[hands[20]][::-1]})
        self.assertEqual(fault_by_words(otherwise, sides_of_a_line(hands)), fault_of(otherwise))
        self.assertIs(False, comes_by(otherwise, history))

    def test_a_hundred_hands_with_a_hundred_words_that_take_turns(self):
        hands, words = some_names(100), some_names(100)
        mouths = {word: hands[0] if k % 2 else hands[99] for k, word in enumerate(words)}
        moment = (line_web(hands), mouths, {hand: list(words) for hand in hands})
        self.assertIs(None, fault_of(moment))
        history = history_of(moment)
        self.assertEqual(10000, len(history))
        self.assertIs(True, comes_by(moment, history))


class Order(unittest.TestCase):
    def test_nothing_hangs_on_the_order_of_hands_roads_and_dicts(self):
        for seed, (moment, _) in enumerate(drawn_moments(100)):
            rnd = random.Random(seed)
            other = reordered(rnd, moment)
            self.assertEqual(what_lies(moment), what_lies(other))
            self.assertEqual(list(what_lies(moment)), list(what_lies(other)))
            self.assertEqual(history_of(moment), history_of(other))
            self.assertIs(True, comes_by(moment, history_of(other)))
            web, mouths, books = moment
            hand = rnd.choice(web[0])
            otherwise = (web, mouths, {**books, hand: books[hand][::-1]})
            self.assertEqual(fault_of(otherwise), fault_of(reordered(rnd, otherwise)))


def reordered(rnd, moment):
    """The same moment, its web and its dicts in drawn orders."""
    (hands, roads), mouths, books = moment
    return ((rnd.sample(hands, len(hands)), rnd.sample(roads, len(roads))),
            {word: mouths[word] for word in rnd.sample(sorted(mouths), len(mouths))},
            {hand: books[hand] for hand in rnd.sample(sorted(books), len(books))})


def odd_deeds(deed):
    """Things that are near to a deed, but none."""
    return [list(deed), deed[:-1], deed + ("a",), deed[1:], (deed,), ("shout", "a"), ("hear",), (),
            ("hear", "a", "a", "x"), ("hear", "a", "c", "x"), ("hear", "a", "q", "x"), ("hear", "q", "a", "x"),
            ("shout", "q", "x"),
            ("shout", "a", "q"), ("join", "a", "x"), ("step", "a", "b", "x"), ("Shout", "a", "x"), ("shout", "a", None),
            (None, "a", "x"), ("shout", ["a"], "x"), ("hear", None, "b", "x"), ("hear", "a", ["b"], "x"),
            ("hear", "a", "b", ["x"]), ("shout", "a", "x", "x"), ("hear", "b", "x"), " ".join(deed)]


if __name__ == "__main__":
    unittest.main()
