"""Points 5 and 6: names and webs; ways, sides and meetings."""

import unittest
from itertools import permutations, product

from heardapart.errors import NoHand, NoRoad, NoWeb
from heardapart.webs import is_name, is_web, meeting_of, side_of, way_between

from tests.odd import odd_things
from tests.trials import all_roads, error_of, grown_web, grown_webs, line_web, road, some_names, star_web, \
    ways_by_trial

FORK = (["mid", "far", "top", "low", "end"], [("mid", "top"), ("far", "mid"), ("low", "mid"), ("end", "low")])


class Names(unittest.TestCase):
    def test_names(self):
        for name in ("a", "z", "ab", "aa", "word", "abcdefg", "abcdefgh", "zzzzzzzz"):
            self.assertIs(True, is_name(name), name)

    def test_each_small_letter_and_no_other_sign(self):
        for code in range(0x250):
            self.assertIs("a" <= chr(code) <= "z", is_name(chr(code)), code)
            self.assertIs("a" <= chr(code) <= "z", is_name("ab" + chr(code)), code)

    def test_no_names(self):
        for text in ("", "abcdefghi", "a" * 2000, "A", "Ab", "aB", "a1", "1", "a b", " a", "a ", "a\n", "-", "_",
                     "\u00e4", "\u0430", "\uff41", "\u00aa", "a\u0301"):
            self.assertIs(False, is_name(text), ascii(text))

    def test_other_kinds(self):
        for thing in (None, True, 1, 0.5, b"a", ["a"], ("a",), {"a": 1}, {"a"}, str, is_name):
            self.assertIs(False, is_name(thing))


class Webs(unittest.TestCase):
    def test_one_hand(self):
        self.assertIs(True, is_web((["a"], [])))

    def test_lines_and_stars(self):
        for many in (2, 3, 7, 100, 2000):
            hands = some_names(676)[:many] if many <= 676 else [a + b for a in some_names(50) for b in some_names(50)]
            self.assertIs(True, is_web(line_web(hands)), many)
            self.assertIs(True, is_web(star_web(hands)), many)

    def test_all_small_sets_of_roads(self):
        for many in range(1, 5):
            hands = some_names(many)
            pairs = all_roads(hands)
            for chosen in product((False, True), repeat=len(pairs)):
                roads = [pair for pair, here in zip(pairs, chosen) if here]
                ways = [ways_by_trial((hands, roads), a, b) for a in hands for b in hands]
                self.assertIs(all(len(found) == 1 for found in ways), is_web((hands, roads)), roads)

    def test_hands_and_roads_in_any_order(self):
        for hands in permutations(["a", "b", "c", "d"]):
            for roads in permutations([("a", "c"), ("b", "c"), ("c", "d")]):
                self.assertIs(True, is_web((list(hands), list(roads))))

    def test_all_shapes(self):
        for hands in (["a", "b", "c", "d", "e"], ["e", "c", "a", "d", "b"]):
            for web in grown_webs(hands):
                self.assertIs(True, is_web(web))

    def test_a_road_more_or_fewer(self):
        hands, roads = FORK
        self.assertIs(True, is_web(FORK))
        for k in range(len(roads)):
            self.assertIs(False, is_web((hands, roads[:k] + roads[k + 1:])))
        for pair in all_roads(hands):
            self.assertIs(False, is_web((hands, roads + [pair])))
        self.assertIs(False, is_web((["a", "b"], [])))
        self.assertIs(False, is_web((["a"], [("a", "a")])))

    def test_a_road_twice_turned_to_itself_or_to_no_hand(self):
        hands, roads = FORK
        for k, (one, other) in enumerate(roads):
            for wrong in ((other, one), (one, one), (other, other), (one, "zz"), ("aa", other), roads[k - 1],
                          [one, other], (one,), (one, other, other), one + "-" + other, {one: other}, None, ()):
                self.assertIs(False, is_web((hands, roads[:k] + [wrong] + roads[k + 1:])), wrong)

    def test_a_ring_beside_an_island(self):
        self.assertIs(False, is_web((["a", "b", "c", "d"], [("a", "b"), ("b", "c"), ("a", "c")])))
        self.assertIs(False, is_web((["d", "c", "b", "a"], [("b", "c"), ("b", "d"), ("c", "d")])))
        self.assertIs(False, is_web((list("abcdef"), [("a", "b"), ("b", "c"), ("a", "c"), ("d", "e"), ("e", "f")])))

    def test_a_hand_twice_or_of_no_name(self):
        self.assertIs(False, is_web((["a", "a"], [])))
        self.assertIs(False, is_web((["a", "a"], [("a", "a")])))
        self.assertIs(False, is_web((["a", "b", "b"], [("a", "b"), ("a", "b")])))
        for wrong in ("", "B", "b1", "abcdefghi", None, 1, b"b", ["b"], ("b",)):
            self.assertIs(False, is_web((["a", wrong], [("a", wrong)])))
            self.assertIs(False, is_web((["a", wrong], [])))

    def test_no_hands(self):
        self.assertIs(False, is_web(([], [])))

    def test_other_kinds_for_lists_and_tuples(self):
        hands, roads = FORK
        for thing in ([hands, roads], (tuple(hands), roads), (hands, tuple(roads)), (hands,), (hands, roads, []),
                      (hands, [list(pair) for pair in roads]), {0: hands, 1: roads}, (hands, set(roads)),
                      ({hand: 1 for hand in hands}, roads), (hands, dict(roads)), (hands, None), (None, roads),
                      "ab", ("ab", "cd"), ("a", []), (roads, hands)):
            self.assertIs(False, is_web(thing))


class Ways(unittest.TestCase):
    def test_of_a_hand_and_itself(self):
        self.assertEqual(["a"], way_between((["a"], []), "a", "a"))
        for hand in FORK[0]:
            self.assertEqual([hand], way_between(FORK, hand, hand))

    def test_all_ways_of_all_shapes(self):
        for hands in (["a", "b", "c", "d", "e"], ["e", "c", "a", "d", "b"]):
            for web in grown_webs(hands):
                for one, other in product(hands, hands):
                    self.assertEqual([way_between(web, one, other)], ways_by_trial(web, one, other))

    def test_far_ends_of_a_hundred_hands(self):
        hands = some_names(100)
        mixed = [hands[k * 37 % 100] for k in range(100)]
        web = line_web(mixed)
        web = (sorted(web[0]), web[1][::-1])
        self.assertEqual(mixed, way_between(web, mixed[0], mixed[-1]))
        self.assertEqual(mixed[::-1], way_between(web, mixed[-1], mixed[0]))
        self.assertEqual(mixed[20:81], way_between(web, mixed[20], mixed[80]))

    def test_the_web_comes_ahead_of_the_hands(self):
        for thing in odd_things() + [[]]:
            self.assertIs(NoWeb, error_of(way_between, thing, "a", "b"))
            self.assertIs(NoWeb, error_of(way_between, thing, thing, thing))
        self.assertIs(NoWeb, error_of(way_between, (["a", "b"], [("b", "a")]), "a", "b"))

    def test_no_hands(self):
        for thing in odd_things() + [[], "a", "mi", "midd", ("mid",), ["mid"]]:
            self.assertIs(NoHand, error_of(way_between, FORK, thing, "mid"))
            self.assertIs(NoHand, error_of(way_between, FORK, "mid", thing))
            self.assertIs(NoHand, error_of(way_between, FORK, thing, thing))


class Sides(unittest.TestCase):
    def test_sides_of_a_fork(self):
        self.assertEqual(["end", "far", "low", "mid"], side_of(FORK, "mid", "top"))
        self.assertEqual(["top"], side_of(FORK, "top", "mid"))
        self.assertEqual(["end", "low"], side_of(FORK, "low", "mid"))
        self.assertEqual(["far", "mid", "top"], side_of(FORK, "mid", "low"))

    def test_all_sides_of_all_shapes(self):
        for web in grown_webs(["e", "c", "a", "d", "b"]):
            for pair in web[1]:
                for one, other in (pair, pair[::-1]):
                    wanted = [hand for hand in sorted(web[0]) if other not in ways_by_trial(web, hand, one)[0]]
                    self.assertEqual(wanted, side_of(web, one, other))

    def test_both_sides_are_all_hands(self):
        hands = some_names(100)
        web = grown_web(hands, [k * 7 // 9 for k in range(99)])
        for one, other in web[1]:
            self.assertEqual(hands, sorted(side_of(web, one, other) + side_of(web, other, one)))

    def test_no_neighbours(self):
        self.assertIs(NoRoad, error_of(side_of, (["a"], []), "a", "a"))
        for one, other in product(FORK[0], FORK[0]):
            wanted = None if road(one, other) in FORK[1] else NoRoad
            self.assertIs(wanted, error_of(side_of, FORK, one, other))

    def test_refusals_in_their_order(self):
        for thing in odd_things() + [[], "a", ("mid", "top")]:
            self.assertIs(NoWeb, error_of(side_of, thing, "mid", "top"))
            self.assertIs(NoWeb, error_of(side_of, thing, thing, thing))
            self.assertIs(NoHand, error_of(side_of, FORK, thing, "top"))
            self.assertIs(NoHand, error_of(side_of, FORK, "mid", thing))
            self.assertIs(NoHand, error_of(side_of, FORK, thing, thing))


class Meetings(unittest.TestCase):
    def test_all_meetings_of_all_shapes(self):
        for hands in (["a", "b", "c", "d"], ["e", "c", "a", "d", "b"]):
            for web in grown_webs(hands):
                ways = {(a, b): ways_by_trial(web, a, b)[0] for a in hands for b in hands}
                for a, b, c in product(hands, repeat=3):
                    wanted = [hand for hand in ways[a, b] if hand in ways[b, c] and hand in ways[c, a]]
                    self.assertEqual(wanted, [meeting_of(web, a, b, c)])

    def test_alike_ones(self):
        for a, b in product(FORK[0], FORK[0]):
            self.assertEqual(a, meeting_of(FORK, a, a, b))
            self.assertEqual(a, meeting_of(FORK, a, b, a))
            self.assertEqual(a, meeting_of(FORK, b, a, a))
            self.assertEqual(a, meeting_of(FORK, a, a, a))

    def test_far_ends_of_a_hundred_hands(self):
        hands = some_names(100)
        web = line_web(hands)
        for middle in (hands[0], hands[1], hands[50], hands[99]):
            for three in permutations((hands[0], middle, hands[99])):
                self.assertEqual(middle, meeting_of(web, *three))
        self.assertEqual(hands[0], meeting_of(star_web(hands), hands[7], hands[99], hands[50]))

    def test_refusals_in_their_order(self):
        for thing in odd_things() + [[], "a"]:
            self.assertIs(NoWeb, error_of(meeting_of, thing, "mid", "top", "low"))
            self.assertIs(NoWeb, error_of(meeting_of, thing, thing, thing, thing))
            self.assertIs(NoHand, error_of(meeting_of, FORK, thing, "top", "low"))
            self.assertIs(NoHand, error_of(meeting_of, FORK, "mid", thing, "low"))
            self.assertIs(NoHand, error_of(meeting_of, FORK, "mid", "top", thing))
            self.assertIs(NoHand, error_of(meeting_of, FORK, "mid", "mid", thing))


class Anything(unittest.TestCase):
    def test_truths_of_odd_things(self):
        for k, thing in enumerate(odd_things() + [[]]):
            with self.subTest(k):
                self.assertIs(False, is_name(thing))
                self.assertIs(False, is_web(thing))

    def test_odd_things_within_a_web(self):
        for k, thing in enumerate(odd_things() + [[]]):
            with self.subTest(k):
                self.assertIs(False, is_web((thing, [("one", "two")])))
                self.assertIs(False, is_web((["one", "two"], thing)))
                self.assertIs(False, is_web((["one", thing], [("one", "two")])))
                self.assertIs(False, is_web((["one", "two"], [thing])))
                self.assertIs(False, is_web((["one", "two"], [(thing, "two")])))
                self.assertIs(False, is_web((["one", "two"], [("one", thing)])))
                self.assertIs(False, is_web((["one", "two", thing], [("one", "two"), ("two", thing)])))


if __name__ == "__main__":
    unittest.main()
