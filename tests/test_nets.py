"""Points 11 and 12: nets that live, and what they tell."""

import random
import unittest

from heardapart.errors import ApartError, Empty, NoHand, NoName, NoWord, Twice
from heardapart.moments import is_moment
from heardapart.nets import Net
from heardapart.webs import is_web

from tests.odd import odd_things
from tests.plain_nets import PlainNet, do, drawn_deed, drawn_nets
from tests.trials import error_of, some_names

HANDS = ["d", "b", "e", "a", "c"]
WORDS = ["v", "z", "x", "y", "w"]


def line_net(hands):
    net = Net(hands[0])
    for one, other in zip(hands, hands[1:]):
        net.join(other, one)
    return net


def all_told(net):
    """All that a net tells of its state."""
    hands, roads = net.web()
    words = net.words()
    return (hands, roads, words, [net.mouth(word) for word in words], [net.book(hand) for hand in hands],
            {(one, other): net.lane(one, other) for one in hands for other in hands}, net.lying(), net.moment(),
            [net.next_words(hand) for hand in hands],
            [net.hearings_to(hand, word) for hand in hands for word in words],
            [net.settled(hand, word, other) for hand in hands for word in words for other in words if word != other])


class Drawn(unittest.TestCase):
    def assert_alike(self, plain, net):
        hands, roads = plain.web()
        self.assertEqual((hands, roads), net.web())
        self.assertEqual(sorted(plain.mouths), net.words())
        self.assertEqual(sum(len(letters) for letters in plain.lanes.values()), net.lying())
        self.assertEqual(plain.moment(), net.moment())
        for word, hand in plain.mouths.items():
            self.assertEqual(hand, net.mouth(word))
        for hand in hands:
            self.assertEqual(plain.books[hand], net.book(hand))
            firsts = [plain.lanes[one, other][0] for one, other in plain.filled() if other == hand]
            self.assertEqual(sorted(firsts), net.next_words(hand))
            for other in hands:
                self.assertEqual(plain.lanes.get((hand, other), []), net.lane(hand, other))

    def test_drawn_deeds(self):
        for seed in range(150):
            rnd = random.Random(seed)
            first = rnd.choice(HANDS)
            net, plain = Net(first), PlainNet(first)
            self.assert_alike(plain, net)
            while deed := drawn_deed(rnd, plain, HANDS, WORDS):
                self.assertIs(None, do(net, deed))
                do(plain, deed)
                self.assert_alike(plain, net)

    def test_rests_in_their_order(self):
        for seed in range(300):
            rnd = random.Random(seed)
            net, plain = drawn_nets(rnd, HANDS, WORDS, rnd.randrange(25))
            for _ in range(3):
                told = net.rest()
                self.assertIs(int, type(told))
                self.assertEqual(plain.rest(), told)
                self.assert_alike(plain, net)
                self.assertEqual(0, net.lying())
                deed = drawn_deed(rnd, plain, HANDS, WORDS)
                if deed is not None:
                    do(net, deed)
                    do(plain, deed)
            net.rest()
            self.assertEqual(0, net.rest())

    def test_names_in_the_order_of_python(self):
        hands, words = ["b", "ab", "aab", "ba", "a"], ["y", "xy", "xxy", "yx", "x"]
        for seed in range(60):
            rnd = random.Random(seed)
            net, plain = drawn_nets(rnd, hands, words, 18)
            self.assert_alike(plain, net)
            self.assertEqual(plain.rest(), net.rest())
            self.assert_alike(plain, net)


class Deeds(unittest.TestCase):
    def test_one_hand(self):
        net = Net("me")
        self.assertEqual((["me"], []), net.web())
        self.assertEqual([], net.words())
        self.assertEqual([], net.book("me"))
        self.assertEqual([], net.lane("me", "me"))
        self.assertEqual([], net.next_words("me"))
        self.assertEqual(((["me"], []), {}, {"me": []}), net.moment())
        net.shout("me", "me")
        self.assertEqual(["me"], net.book("me"))
        self.assertEqual("me", net.mouth("me"))
        self.assertEqual((0, 0), (net.lying(), net.rest()))

    def test_words_that_cross(self):
        net = line_net(["a", "b", "c"])
        net.shout("a", "x")
        net.shout("c", "y")
        self.assertEqual(["x", "y"], net.next_words("b"))
        net.step("a", "b")
        net.step("c", "b")
        self.assertEqual(["x", "y"], net.book("b"))
        self.assertEqual(["x"], net.lane("b", "c"))
        self.assertEqual(["y"], net.lane("b", "a"))
        net.rest()
        self.assertEqual([["x", "y"], ["x", "y"], ["y", "x"]], [net.book(hand) for hand in "abc"])

    def test_a_new_hand_gets_the_whole_book_heard_and_shouted(self):
        net = line_net(["b", "a"])
        for word in ("x", "y"):
            net.shout("a", word)
        net.step("a", "b")
        net.shout("b", "z")
        net.join("c", "b")
        self.assertEqual(["x", "z"], net.lane("b", "c"))
        self.assertEqual([], net.lane("c", "b"))
        self.assertEqual([], net.book("c"))
        self.assertEqual(["y"], net.lane("a", "b"))
        net.step("a", "b")
        self.assertEqual(["x", "z", "y"], net.lane("b", "c"))
        net.join("d", "c")
        self.assertEqual([], net.lane("c", "d"))
        net.step("b", "c")
        self.assertEqual(["x"], net.lane("c", "d"))
        self.assertEqual([], net.lane("c", "b"))
        net.join("e", "a")
        self.assertEqual(["x", "y"], net.lane("a", "e"))
        self.assertEqual((["a", "b", "c", "d", "e"], [("a", "b"), ("a", "e"), ("b", "c"), ("c", "d")]), net.web())

    def test_the_order_of_a_rest(self):
        # From b first: its letters to a and c; from a nothing else lies then; z from c comes last.
        net = Net("b")
        net.join("c", "b")
        net.join("a", "b")
        net.shout("b", "x")
        net.shout("c", "z")
        net.shout("a", "y")
        self.assertEqual(6, net.rest())
        self.assertEqual(["x", "y", "z"], net.book("b"))
        self.assertEqual(["y", "x", "z"], net.book("a"))
        self.assertEqual(["z", "x", "y"], net.book("c"))

    def test_a_rest_goes_back_to_lesser_names(self):
        # From b both letters first; what c passes on to a goes from there to d at once, for a is the least.
        net = Net("c")
        net.join("b", "c")
        net.join("a", "c")
        net.join("d", "a")
        net.shout("b", "x")
        net.shout("d", "y")
        net.shout("b", "z")
        self.assertEqual(9, net.rest())
        self.assertEqual(["x", "z", "y"], net.book("a"))
        self.assertEqual(["x", "z", "y"], net.book("c"))
        self.assertEqual(["y", "x", "z"], net.book("d"))

    def test_a_lane_on_which_nothing_lay(self):
        net = line_net(["a", "b", "c"])
        self.assertIs(Empty, error_of(net.step, "a", "b"))
        net.shout("a", "x")
        self.assertIs(Empty, error_of(net.step, "b", "a"))
        self.assertIs(Empty, error_of(net.step, "a", "c"))
        self.assertIs(Empty, error_of(net.step, "a", "a"))
        self.assertIs(None, error_of(net.step, "a", "b"))
        self.assertIs(Empty, error_of(net.step, "a", "b"))
        self.assertIs(Empty, error_of(net.step, "b", "a"))
        self.assertIs(None, error_of(net.step, "b", "c"))

    def test_hands_and_words_have_names_of_their_own(self):
        net = line_net(["a", "b"])
        net.shout("a", "b")
        net.shout("b", "a")
        self.assertEqual("a", net.mouth("b"))
        self.assertEqual("b", net.mouth("a"))

    def test_its_moment_has_its_web_in_order(self):
        net = Net("c")
        net.join("a", "c")
        net.join("b", "c")
        net.shout("b", "x")
        net.shout("a", "w")
        moment = net.moment()
        self.assertEqual((net.web(), {"w": "a", "x": "b"}, {"a": ["w"], "b": ["x"], "c": []}), moment)
        self.assertEqual((["a", "b", "c"], [("a", "c"), ("b", "c")]), moment[0])
        self.assertIs(True, is_web(net.web()))
        self.assertIs(True, is_moment(moment))

    def test_twenty_thousand_letters(self):
        hands, words = some_names(100), some_names(202)
        for beside in (lambda k: k - 1, lambda k: 0, lambda k: k // 2):
            net = Net(hands[0])
            for k in range(1, 100):
                net.join(hands[k], hands[beside(k)])
            for k, word in enumerate(words):
                net.shout(hands[k * 37 % 100], word)
            self.assertEqual(202 * 99, net.rest())
            self.assertEqual(sorted(words), sorted(net.book(hands[99])))
            self.assertEqual(0, net.lying())


class Refusals(unittest.TestCase):
    def setUp(self):
        self.net = line_net(["mid", "low", "top"])
        self.net.shout("mid", "one")
        self.net.shout("top", "two")
        self.net.step("mid", "low")
        self.net.join("far", "low")

    def assert_refused(self, wanted, call, *args):
        ahead = all_told(self.net)
        self.assertIs(wanted, error_of(call, *args))
        self.assertEqual(ahead, all_told(self.net))

    def test_a_net_without_a_name(self):
        for thing in odd_things() + [[], "Mid", "mid top"]:
            if error_of(Net, thing) is not NoName:
                self.fail(repr(type(thing)))
        for name in ("a", "abcdefgh"):
            self.assertEqual(([name], []), Net(name).web())

    def test_join(self):
        join = self.net.join
        for thing in odd_things() + [[], "Mid", "abcdefghi"]:
            self.assert_refused(NoName, join, thing, "mid")
            self.assert_refused(NoName, join, thing, thing)
            self.assert_refused(NoHand, join, "new", thing)
            self.assert_refused(Twice, join, "mid", thing)
        self.assert_refused(Twice, join, "mid", "mid")
        self.assert_refused(Twice, join, "far", "top")
        self.assert_refused(NoHand, join, "new", "new")
        self.assert_refused(NoHand, join, "new", "one")
        self.assertIs(None, error_of(join, "new", "mid"))

    def test_shout(self):
        shout = self.net.shout
        for thing in odd_things() + [[], "Mid", "abcdefghi"]:
            self.assert_refused(NoHand, shout, thing, "three")
            self.assert_refused(NoHand, shout, thing, "one")
            self.assert_refused(NoHand, shout, thing, thing)
            self.assert_refused(NoName, shout, "mid", thing)
        self.assert_refused(NoHand, shout, "one", "three")
        for hand in ("mid", "low", "top", "far"):
            self.assert_refused(Twice, shout, hand, "one")
            self.assert_refused(Twice, shout, hand, "two")
        self.assertIs(None, error_of(shout, "mid", "three"))

    def test_step(self):
        step = self.net.step
        for thing in odd_things() + [[], "new"]:
            self.assert_refused(NoHand, step, thing, "low")
            self.assert_refused(NoHand, step, "low", thing)
            self.assert_refused(NoHand, step, thing, thing)
        for one, other in (("mid", "low"), ("low", "mid"), ("mid", "top"), ("mid", "mid"), ("far", "low")):
            self.assert_refused(Empty, step, one, other)
        self.assertIs(None, error_of(step, "low", "far"))

    def test_what_it_tells(self):
        net = self.net
        for thing in odd_things() + [[], "new", "mi"]:
            self.assert_refused(NoWord, net.mouth, thing)
            self.assert_refused(NoHand, net.book, thing)
            self.assert_refused(NoHand, net.next_words, thing)
            self.assert_refused(NoHand, net.lane, thing, "mid")
            self.assert_refused(NoHand, net.lane, "mid", thing)
            self.assert_refused(NoHand, net.lane, thing, thing)
        self.assert_refused(NoWord, net.mouth, "mid")
        self.assert_refused(NoHand, net.book, "one")

    def test_all_are_refusals_of_the_program(self):
        for call in (lambda: Net(""), lambda: self.net.join("a", "b"), lambda: self.net.shout("mid", "one"),
                     lambda: self.net.step("mid", "low"), lambda: self.net.mouth("mid")):
            self.assertRaises(ApartError, call)


class Own(unittest.TestCase):
    def test_lists_told_are_new_ones(self):
        net = line_net(["b", "a", "c"])
        for word in ("x", "y", "z"):
            net.shout("a", word)
        net.step("a", "b")
        ahead = all_told(net)
        for spoil in (lambda: net.web()[0].clear(), lambda: net.web()[1].clear(), lambda: net.words().clear(),
                      lambda: net.book("a").reverse(), lambda: net.lane("a", "b").pop(),
                      lambda: net.lane("b", "c").append("x"), lambda: net.next_words("b").append("x"),
                      lambda: net.moment()[0][0].pop(), lambda: net.moment()[0][1].reverse(),
                      lambda: net.moment()[1].clear(), lambda: net.moment()[1].update(x="b"),
                      lambda: net.moment()[2].clear(), lambda: net.moment()[2]["a"].pop(),
                      lambda: net.moment()[2]["b"].clear()):
            spoil()
            self.assertEqual(ahead, all_told(net))
        net.rest()
        self.assertEqual(["x", "y", "z"], net.book("c"))

    def test_a_new_hands_lane_is_no_book(self):
        net = Net("a")
        net.shout("a", "x")
        net.join("b", "a")
        net.join("c", "a")
        net.step("a", "b")
        self.assertEqual(["x"], net.book("a"))
        self.assertEqual(["x"], net.lane("a", "c"))

    def test_two_nets_are_two(self):
        one, other = Net("a"), Net("a")
        one.shout("a", "x")
        one.join("b", "a")
        self.assertEqual([], other.words())
        self.assertEqual((["a"], []), other.web())


if __name__ == "__main__":
    unittest.main()
