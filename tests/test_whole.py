"""Point 4 over the whole program: what holds of nets, told worlds, lines and the desk together."""

import random
import unittest
from itertools import combinations

from heardapart.books import longest_turned, roads_between, turned_pairs
from heardapart.desk import Desk
from heardapart.errors import ApartError
from heardapart.lines import heap_of, how_many_rests, rest_of
from heardapart.moments import comes_by, fault_of, history_of
from heardapart.partings import fewest_hands
from heardapart.texts import read_history, read_moment, show_history, show_moment
from heardapart.webs import way_between
from heardapart.worlds import is_paper, is_world, least_apart, mouths_of, world_or_paper

from tests.moment_trials import led_to
from tests.parting_trials import books_of, drawn_given, has_paper
from tests.plain_nets import all_reached, drawn_nets, plain_net_of
from tests.trials import line_web, some_names

HANDS = ["d", "g", "b", "e", "a", "h", "f", "c"]
WORDS = ["v", "z", "x", "y", "w", "u"]


def whole_moments():
    """Moments of drawn nets at rest, and of told worlds, all of whose books are whole."""
    for seed in range(60):
        rnd = random.Random(seed)
        net, _ = drawn_nets(rnd, HANDS, WORDS, 60)
        net.rest()
        (hands, roads), mouths, books = net.moment()
        yield (hands, roads), mouths, books
        books, _ = drawn_given(rnd, some_names(14), some_names(8), 6)
        yield world_or_paper(books)[1]


def turned_on(books, way):
    """The turned pairs, in no order of their words, of all roads of a way, one after the other."""
    return [tuple(sorted(pair)) for one, other in zip(way, way[1:]) for pair in turned_pairs(books[one], books[other])]


class Turned(unittest.TestCase):
    def test_each_stands_ahead_at_its_own_mouth_by_one_road_between_the_mouths(self):
        seen = 0
        for (_, roads), mouths, books in whole_moments():
            web = (list(books), roads)
            found = {}
            for one, other in roads:
                for pair in turned_on(books, [one, other]):
                    self.assertNotIn(pair, found)
                    found[pair] = (one, other)
            for (a, b), road in found.items():
                way = way_between(web, mouths[a], mouths[b])
                self.assertIn(road, [tuple(sorted(two)) for two in zip(way, way[1:])])
                self.assertEqual([a, b], [word for word in books[mouths[a]] if word in (a, b)])
                self.assertEqual([b, a], [word for word in books[mouths[b]] if word in (a, b)])
                seen += 1
        self.assertTrue(seen > 200)

    def test_along_any_way(self):
        for (_, roads), _, books in whole_moments():
            web = (list(books), roads)
            for one, other in combinations(sorted(books), 2):
                ends = [tuple(sorted(pair)) for pair in turned_pairs(books[one], books[other])]
                self.assertEqual(sorted(ends), sorted(turned_on(books, way_between(web, one, other))))


class FarApart(unittest.TestCase):
    def test_hands_of_worlds_are_as_far_apart_as_they_must_be(self):
        for (_, roads), _, books in whole_moments():
            web = (list(books), roads)
            for one, other in combinations(sorted(books), 2):
                far = len(way_between(web, one, other)) - 1
                self.assertGreaterEqual(far, len(longest_turned(books[one], books[other])) - 1)
                given = {one: books[one], other: books[other]}
                least = least_apart(given, one, other)
                self.assertEqual(max(1, roads_between(books[one], books[other])), least)
                self.assertLessEqual(least, far)

    def test_names_are_as_far_apart_as_told_in_some_world_and_no_nearer(self):
        for seed in range(60):
            books, _ = drawn_given(random.Random(seed), some_names(14), some_names(8), 6)
            web, mouths, _ = world_or_paper(books)[1]
            for one, other in combinations(sorted(books), 2):
                self.assertLessEqual(least_apart(books, one, other), len(way_between(web, one, other)) - 1)
            for word in mouths:
                self.assertTrue(mouths_of(books, word)[0] or mouths_of(books, word)[1])

    def test_the_desk_tells_no_more_roads_than_there_are(self):
        turned = 0
        for seed in range(60):
            desk = led(random.Random(seed), 300)
            hands = desk.say("hands").split(" ")
            for one in hands:
                for other in hands:
                    far, least = desk.say("apart " + one + " " + other).split(" ")
                    self.assertLessEqual(int(least), int(far))
                    turned += int(least)
        self.assertTrue(turned > 50)


def led(rnd, many):
    """A desk that is led by drawn rows, many of which it refuses."""
    desk = Desk()
    desk.say("net a")
    for _ in range(many):
        kind = rnd.choice(["join", "shout", "step", "step", "step"])
        others = WORDS if kind == "shout" else HANDS
        try:
            desk.say(" ".join([kind, rnd.choice(HANDS), rnd.choice(others)]))
        except ApartError:
            pass
    return desk


class SettledAndFew(unittest.TestCase):
    def test_what_the_desk_tells_to_be_settled_is_never_heard_otherwise(self):
        found = {"open": 0, "settled": 0}
        for seed in range(50):
            desk = led(random.Random(seed), 300)
            hands, words = desk.say("hands").split(" "), desk.say("words").replace("none", "").split()
            told = {(hand, a, b): desk.say(" ".join(["settled", hand, a, b]))
                    for hand in hands for a, b in combinations(words, 2)}
            desk.say("rest")
            for (hand, a, b), word in told.items():
                first = [one for one in desk.say("book " + hand).split(" ") if one in (a, b)][0]
                found["open" if word == "open" else "settled"] += 1
                self.assertIn(word, ("open", first))
        self.assertTrue(min(found.values()) > 50)

    def test_by_fewer_hearings_than_the_desk_tells_nobody_has_a_word(self):
        for seed in range(50):
            rnd = random.Random(seed)
            desk = led(rnd, 200)
            hands, words = desk.say("hands").split(" "), desk.say("words").replace("none", "").split()
            told = {(hand, word): int(desk.say("few " + hand + " " + word)) for hand in hands for word in words}
            for many in range(12):
                for hand, word in told:
                    if word in desk.say("book " + hand).split(" "):
                        self.assertLessEqual(told[hand, word], many)
                    else:
                        self.assertGreaterEqual(int(desk.say("few " + hand + " " + word)), told[hand, word] - many)
                lanes = [one + " " + other for one in hands for other in hands]
                steps = [lane for lane in lanes if desk.say("lane " + lane) != "none"]
                if steps:
                    desk.say("step " + rnd.choice(steps))


class HeardSomewhere(unittest.TestCase):
    def test_what_nets_heard_has_a_world_and_no_paper(self):
        for seed in range(80):
            rnd = random.Random(seed)
            net, _ = drawn_nets(rnd, HANDS, WORDS, 60)
            net.rest()
            moment = net.moment()
            names = rnd.sample(moment[0][0], rnd.randrange(1, len(moment[0][0]) + 1))
            books = {name: moment[2][name] for name in names}
            self.assertIs(True, is_world(books, moment))
            self.assertEqual("world", world_or_paper(books)[0])
            self.assertLessEqual(fewest_hands(books), len(moment[0][0]))

    def test_a_told_world_is_led_to_step_by_step(self):
        for seed in range(60):
            books, _ = drawn_given(random.Random(seed), some_names(14), some_names(8), 6)
            web, mouths, whole = world_or_paper(books)[1]
            moment = read_moment(show_moment((web, mouths, whole)))
            history = read_history(show_history(history_of(moment)))
            self.assertEqual(whole, led_to(web, mouths, history))
            self.assertIs(True, comes_by(moment, history))
            self.assertIs(None, fault_of(moment))

    def test_a_world_of_a_world_is_as_small(self):
        for seed in range(60):
            books, _ = drawn_given(random.Random(seed), some_names(10), some_names(6), 4)
            (hands, _), _, whole = world_or_paper(books)[1]
            if len(hands) <= 12:
                self.assertEqual(len(hands), fewest_hands(whole))
                self.assertEqual(len(hands), len(world_or_paper(whole)[1][0][0]))

    def test_a_paper_shows_it_of_more_books_too(self):
        for rows in (("abcd", "bacd", "abdc", "badc"), ("abc", "bca", "cab"), ("vwu", "uwv", "uvw")):
            books = books_of(*rows)
            paper = world_or_paper(books)
            words = sorted(books["a"])
            for name in ("aa", "zz"):
                more = {name: words, **books}
                self.assertIs(True, has_paper(more))
                self.assertIs(True, is_paper(more, paper))
                self.assertNotEqual("world", world_or_paper(more)[0])


class Lines(unittest.TestCase):
    def test_all_rests_to_which_a_line_can_come(self):
        for many, width, hands in ((1, 1, 3), (2, 1, 3), (2, 2, 2), (1, 3, 2), (2, 2, 3), (2, 2, 1)):
            ones, others = ["b", "a"][:many], ["x", "z", "y"][:width]
            names = some_names(hands)
            mouths = {**{word: names[0] for word in ones}, **{word: names[-1] for word in others}}
            found = []
            for net in all_reached(plain_net_of(line_web(names)), mouths):
                rest = [net.books[name] for name in names]
                if all(self.is_whole(book, ones, others) for book in rest):
                    self.assertEqual(rest, rest_of(ones, others, hands, heap_of(ones, others, rest)))
                    found.append(rest)
            self.assertEqual(how_many_rests(many, width, hands), len(found))

    def is_whole(self, book, ones, others):
        return [word for word in book if word in ones] == ones and [word for word in book if word in others] == others


if __name__ == "__main__":
    unittest.main()
