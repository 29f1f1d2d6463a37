"""Points 13 and 14, and what 4 (e) says of them: what is settled, and by how few hearings a hand can have a word."""

import random
import unittest
from itertools import combinations_with_replacement, permutations, product

from heardapart.errors import Alike, NoHand, NoWord
from heardapart.nets import Net
from heardapart.webs import meeting_of

from tests.odd import odd_things
from tests.plain_nets import all_reached, drawn_nets, hearings_by_trial, net_of, plain_net_of, rests_by_trial, \
    settled_by_trial
from tests.trials import error_of, grown_webs, line_web, some_names


def line_net(hands):
    return net_of(plain_net_of(line_web(hands)))


def net_by_deeds(plain, mouths, wanted):
    """A Net that comes to the books and lanes of a plain net by a search through all deeds."""
    level = {plain.key(): (plain, [])}
    seen = {plain.key()}
    while wanted.key() not in level:
        after = {}
        for one, deeds in level.values():
            nexts = [("shout", hand, word) for word, hand in mouths.items() if word not in one.mouths]
            for deed in nexts + [("step", *lane) for lane in one.filled()]:
                told = one.copy()
                getattr(told, deed[0])(*deed[1:])
                if told.key() not in seen:
                    seen.add(told.key())
                    after[told.key()] = (told, deeds + [deed])
        level = after
    net = net_of(plain)
    for kind, *args in level[wanted.key()][1]:
        getattr(net, kind)(*args)
    return net


class Trials(unittest.TestCase):
    def assert_as_by_trial(self, plain, net):
        rests = rests_by_trial(plain)
        hearings = hearings_by_trial(plain)
        for hand in plain.books:
            for word in plain.mouths:
                self.assertEqual(hearings[hand, word], net.hearings_to(hand, word))
            for word, other in permutations(plain.mouths, 2):
                self.assertEqual(settled_by_trial(rests, hand, word, other), net.settled(hand, word, other))

    def test_all_that_is_reached_by_two_words(self):
        for hands in (["a"], ["b", "a"], ["a", "c", "b"]):
            for web in grown_webs(hands):
                start = plain_net_of(web)
                for mouths in product(hands, repeat=2):
                    mouths = dict(zip("yx", mouths))
                    for plain in all_reached(start, mouths):
                        self.assert_as_by_trial(plain, net_by_deeds(start, mouths, plain))

    def test_all_ways_of_shouting_three_words_at_once(self):
        for web in grown_webs(["a", "b", "c", "d"]):
            for mouths in combinations_with_replacement(web[0], 3):
                plain = plain_net_of(web)
                net = net_of(plain)
                for word, hand in zip("zxy", mouths):
                    plain.shout(hand, word)
                    net.shout(hand, word)
                self.assert_as_by_trial(plain, net)

    def test_drawn_nets_with_new_hands(self):
        for seed in range(150):
            rnd = random.Random(seed)
            net, plain = drawn_nets(rnd, ["c", "a", "d", "b"], ["z", "x", "y"], rnd.randrange(14))
            self.assert_as_by_trial(plain, net)

    def test_what_is_settled_comes_so_and_the_open_may_come_so_by_some_rest(self):
        for seed in range(150):
            rnd = random.Random(seed)
            net, _ = drawn_nets(rnd, ["c", "a", "f", "d", "b", "e"], ["w", "z", "x", "y", "v"], 24)
            hands, words = net.web()[0], net.words()
            told = {(hand, *pair): net.settled(hand, *pair) for hand in hands for pair in permutations(words, 2)}
            net.rest()
            for (hand, word, other), wanted in told.items():
                book = net.book(hand)
                ahead = word if book.index(word) < book.index(other) else other
                self.assertIn(wanted, (ahead, None))
                self.assertEqual(ahead, net.settled(hand, word, other))


class Settled(unittest.TestCase):
    def test_by_the_hand_where_the_ways_meet(self):
        net = Net("mid")
        for name in ("one", "two", "far"):
            net.join(name, "mid")
        net.shout("one", "x")
        net.shout("two", "y")
        self.assertEqual("x", net.settled("one", "x", "y"))
        self.assertEqual("x", net.settled("one", "y", "x"))
        self.assertEqual("y", net.settled("two", "x", "y"))
        self.assertIs(None, net.settled("mid", "x", "y"))
        self.assertIs(None, net.settled("far", "y", "x"))
        net.step("two", "mid")
        self.assertEqual("y", net.settled("mid", "x", "y"))
        self.assertEqual("y", net.settled("far", "x", "y"))
        self.assertEqual("x", net.settled("one", "x", "y"))
        self.assertEqual([], net.book("far"))

    def test_words_of_one_mouth_are_settled_everywhere(self):
        net = line_net(["a", "b", "c"])
        net.shout("b", "y")
        net.shout("b", "x")
        for hand in "abc":
            self.assertEqual("y", net.settled(hand, "x", "y"))
            self.assertEqual("y", net.settled(hand, "y", "x"))

    def test_open_ones_are_led_both_ways(self):
        for first, second in (("a", "e"), ("e", "a")):
            net = line_net(["a", "b", "c", "d", "e"])
            net.shout("a", "x")
            net.shout("e", "y")
            for hand in "bcd":
                self.assertIs(None, net.settled(hand, "x", "y"))
            way = "abc" if first == "a" else "edc"
            for one, other in zip(way, way[1:]):
                net.step(one, other)
            wanted = "x" if first == "a" else "y"
            self.assertEqual(wanted, net.settled("c", "x", "y"))
            self.assertEqual(wanted, net.settled(way[1], "x", "y"))
            self.assertIs(None, net.settled("d" if first == "a" else "b", "x", "y"))

    def test_a_hand_that_joined_later(self):
        net = Net("a")
        net.shout("a", "y")
        net.shout("a", "x")
        net.join("b", "a")
        self.assertEqual("y", net.settled("b", "x", "y"))
        net.shout("b", "z")
        self.assertEqual("z", net.settled("b", "x", "z"))
        self.assertEqual("x", net.settled("a", "x", "z"))

    def test_a_line_of_a_hundred_hands(self):
        hands = some_names(100)
        for way in (hands, hands[::-1]):
            net = line_net(way)
            net.shout(hands[10], "x")
            net.shout(hands[90], "y")
            net.step(hands[10], hands[11])
            for k, hand in enumerate(hands):
                self.assertEqual("x" if k < 12 else "y" if k > 89 else None, net.settled(hand, "x", "y"))
            self.assertEqual(79, net.hearings_to(hands[90], "x"))
            self.assertEqual(10, net.hearings_to(hands[0], "x"))
            self.assertEqual(80, net.hearings_to(hands[10], "y"))

    def test_ways_of_a_drawn_web_meet_as_told_of_webs(self):
        rnd = random.Random(7)
        hands = some_names(30)
        net = Net(hands[0])
        for k in range(1, 30):
            net.join(hands[k], hands[rnd.randrange(k)])
        for k, word in enumerate(hands):
            net.shout(hands[k * 7 % 30], word)
        for _ in range(300):
            net.step(*rnd.choice([(a, b) for a, b in both_ways(net.web()[1]) if net.lane(a, b)]))
        for hand, word, other in product(hands[::4], hands, hands[::3]):
            if word != other:
                book = net.book(meeting_of(net.web(), hand, net.mouth(word), net.mouth(other)))
                standing = [one for one in book if one in (word, other)]
                self.assertEqual(standing[0] if standing else None, net.settled(hand, word, other))

    def test_refusals_in_their_order(self):
        net = line_net(["mid", "low"])
        net.shout("mid", "one")
        net.shout("low", "two")
        for thing in odd_things() + [[], "new", "mi"]:
            self.assertIs(NoHand, error_of(net.settled, thing, "one", "two"))
            self.assertIs(NoHand, error_of(net.settled, thing, "one", "one"))
            self.assertIs(NoHand, error_of(net.settled, thing, thing, thing))
            self.assertIs(NoWord, error_of(net.settled, "mid", thing, "two"))
            self.assertIs(NoWord, error_of(net.settled, "mid", "one", thing))
            self.assertIs(NoWord, error_of(net.settled, "mid", thing, thing))
        self.assertIs(NoWord, error_of(net.settled, "mid", "mid", "low"))
        self.assertIs(NoHand, error_of(net.settled, "one", "one", "two"))
        for hand, word in product(["mid", "low"], ["one", "two"]):
            self.assertIs(Alike, error_of(net.settled, hand, word, word))
        self.assertIs(None, error_of(net.settled, "mid", "one", "two"))


class Hearings(unittest.TestCase):
    def test_as_many_as_lie_up_to_the_word(self):
        net = line_net(["a", "b", "c"])
        for word in ("x", "y", "z"):
            net.shout("a", word)
        self.assertEqual([0, 1, 2], [net.hearings_to(hand, "x") for hand in "abc"])
        self.assertEqual([0, 2, 4], [net.hearings_to(hand, "y") for hand in "abc"])
        self.assertEqual([0, 3, 6], [net.hearings_to(hand, "z") for hand in "abc"])
        net.step("a", "b")
        self.assertEqual([0, 0, 1], [net.hearings_to(hand, "x") for hand in "abc"])
        self.assertEqual([0, 1, 3], [net.hearings_to(hand, "y") for hand in "abc"])

    def test_what_lies_on_further_lanes_comes_ahead(self):
        net = line_net(["a", "b", "c", "d"])
        for word in ("p", "q"):
            net.shout("c", word)
        net.shout("b", "r")
        net.shout("a", "x")
        self.assertEqual([0, 1, 3, 7], [net.hearings_to(hand, "x") for hand in "abcd"])
        self.assertEqual([3, 1, 0, 1], [net.hearings_to(hand, "p") for hand in "abcd"])

    def test_by_as_many_it_has_the_word_and_by_fewer_it_has_not(self):
        net = line_net(["a", "b", "c"])
        for word in ("x", "y"):
            net.shout("a", word)
        for left, lane in ((4, "ab"), (3, "ab"), (2, "bc"), (1, "bc")):
            self.assertEqual(left, net.hearings_to("c", "y"))
            self.assertNotIn("y", net.book("c"))
            net.step(*lane)
        self.assertEqual(0, net.hearings_to("c", "y"))
        self.assertIn("y", net.book("c"))

    def test_refusals_in_their_order(self):
        net = line_net(["mid", "low"])
        net.shout("mid", "one")
        for thing in odd_things() + [[], "new", "mi"]:
            self.assertIs(NoHand, error_of(net.hearings_to, thing, "one"))
            self.assertIs(NoHand, error_of(net.hearings_to, thing, thing))
            self.assertIs(NoWord, error_of(net.hearings_to, "mid", thing))
            self.assertIs(NoWord, error_of(net.hearings_to, "low", thing))
        self.assertIs(NoWord, error_of(net.hearings_to, "mid", "low"))
        self.assertIs(int, type(net.hearings_to("mid", "one")))


def both_ways(roads):
    return roads + [(other, one) for one, other in roads]


if __name__ == "__main__":
    unittest.main()
