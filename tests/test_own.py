"""Point 2: what is handed in stays as it was, what is told is the asker's own, the same is answered the same."""

import unittest
from copy import deepcopy
from itertools import permutations

from heardapart import books, lines, moments, partings, texts, webs, worlds
from heardapart.desk import Desk
from heardapart.errors import ApartError
from heardapart.nets import Net

from tests.odd import odd_things
from tests.trials import line_web, some_names

WEB = (["c", "a", "d", "b"], [("a", "c"), ("c", "d"), ("b", "d")])
BOOK = ["d", "b", "a", "c"]
OTHER = ["a", "d", "c", "b"]


def some_net():
    """A net of which all has something to tell."""
    net = Net("c")
    for name, hand in (("a", "c"), ("d", "c"), ("b", "d")):
        net.join(name, hand)
    for hand, word in (("a", "y"), ("b", "x"), ("a", "v"), ("d", "w"), ("a", "u")):
        net.shout(hand, word)
    for hand, other in (("a", "c"), ("b", "d"), ("a", "c"), ("d", "c"), ("c", "d")):
        net.step(hand, other)
    return net


NET = some_net()
MOMENT = NET.moment()
HISTORY = moments.history_of(MOMENT)
FAULTY = ((["a", "b"], [("a", "b")]), {"x": "a", "y": "b"}, {"a": ["y", "x"], "b": ["x", "y"]})
GIVEN = {"b": ["w", "y", "x", "z"], "c": ["w", "x", "z", "y"], "a": ["x", "w", "y", "z"]}
PARTING = (["a", "b"], ["c"])
HALVES = {"c": ["x", "w", "y", "z"], "b": ["w", "x", "y", "z"], "a": ["w", "x", "y", "z"], "d": ["z", "y", "x", "w"]}
WORLD = worlds.world_or_paper(GIVEN)[1]
NOWHERE = {"b": ["y", "z", "x"], "c": ["z", "x", "y"], "a": ["x", "y", "z"]}
PAPER = worlds.world_or_paper(NOWHERE)
ONES, OTHERS = ["b", "a"], ["d", "c"]
HEAP = [[1, 0], [2, 0]]
REST = lines.rest_of(ONES, OTHERS, 3, HEAP)
ASKED = [
    (webs.is_name, ("a",)),
    (webs.is_web, (WEB,)),
    (webs.way_between, (WEB, "a", "b")),
    (webs.way_between, (WEB, "a", "a")),
    (webs.way_between, ((["a"], []), "a", "a")),
    (webs.side_of, (WEB, "c", "d")),
    (webs.side_of, (WEB, "a", "c")),
    (webs.meeting_of, (WEB, "a", "b", "d")),
    (books.is_book, (BOOK,)),
    (books.turned_pairs, (BOOK, OTHER)),
    (books.turned_pairs, (BOOK, BOOK)),
    (books.longest_turned, (BOOK, OTHER)),
    (books.longest_turned, ([], [])),
    (books.fewest_lots, (BOOK, OTHER)),
    (books.fewest_lots, (BOOK, BOOK)),
    (books.fewest_lots, ([], [])),
    (books.roads_between, (BOOK, OTHER)),
    (books.is_turned_row, (BOOK, OTHER, ["d", "a"])),
    (books.is_lots, (BOOK, OTHER, [["d", "c"], ["b"], ["a"]])),
    (books.how_many_numberings, (BOOK, OTHER, 5)),
    (books.is_numbering, (BOOK, OTHER, 3, {"d": 0, "b": 1, "a": 3, "c": 2})),
    (books.book_at, (BOOK, OTHER, 3, {"d": 0, "b": 1, "a": 3, "c": 2}, 0)),
    (books.book_at, (BOOK, OTHER, 3, {"d": 0, "b": 1, "a": 3, "c": 2}, 1)),
    (books.book_at, (BOOK, OTHER, 3, {"d": 0, "b": 1, "a": 3, "c": 2}, 3)),
    (books.book_at, ([], [], 3, {}, 3)),
    (NET.web, ()),
    (NET.words, ()),
    (NET.mouth, ("x",)),
    (NET.book, ("c",)),
    (NET.book, ("a",)),
    (NET.lane, ("a", "c")),
    (NET.lane, ("c", "d")),
    (NET.lane, ("a", "b")),
    (NET.lying, ()),
    (NET.moment, ()),
    (NET.next_words, ("d",)),
    (NET.settled, ("d", "x", "y")),
    (NET.settled, ("c", "x", "u")),
    (NET.hearings_to, ("b", "u")),
    (moments.is_moment, (MOMENT,)),
    (moments.fault_of, (MOMENT,)),
    (moments.fault_of, (FAULTY,)),
    (moments.what_lies, (MOMENT,)),
    (moments.history_of, (MOMENT,)),
    (moments.comes_by, (MOMENT, HISTORY)),
    (moments.comes_by, (FAULTY, HISTORY)),
    (partings.partings_of, (GIVEN,)),
    (partings.pairs_of, (GIVEN, PARTING)),
    (partings.tree_places, (GIVEN,)),
    (partings.tree_places, ({"a": [], "b": []},)),
    (partings.fewest_hands, (GIVEN,)),
    (worlds.world_or_paper, (GIVEN,)),
    (worlds.world_or_paper, ({"a": [], "b": []},)),
    (worlds.world_or_paper, ({"b": ["y", "x", "z"], "c": ["z", "y", "x"], "a": ["y", "x", "z"]},)),
    (worlds.world_or_paper, (NOWHERE,)),
    (worlds.is_paper, (NOWHERE, PAPER)),
    (worlds.is_world, (GIVEN, WORLD)),
    (worlds.least_apart, (GIVEN, "a", "c")),
    (worlds.mouths_of, (GIVEN, "w")),
    (worlds.mouths_of, (GIVEN, "y")),
    (worlds.mouths_of, ({"b": ["z", "y", "x"], "a": ["x", "y", "z"]}, "y")),
    (lines.heap_of, (ONES, OTHERS, REST)),
    (lines.heap_of, ([], OTHERS, [OTHERS, OTHERS])),
    (lines.rest_of, (ONES, OTHERS, 3, HEAP)),
    (lines.rest_of, (ONES, [], 4, [[], []])),
    (lines.rest_of, ([], OTHERS, 4, [])),
    (lines.how_many_rests, (2, 2, 3)),
    (texts.show_web, (WEB,)),
    (texts.read_web, ("a b\na-b",)),
    (texts.show_book, (BOOK,)),
    (texts.read_book, ("d b a c",)),
    (texts.read_book, ("-",)),
    (texts.show_moment, (MOMENT,)),
    (texts.read_moment, (texts.show_moment(MOMENT),)),
    (texts.read_moment, ("a b\na-b\na: -\nb: -",)),
    (texts.show_history, (HISTORY,)),
    (texts.read_history, (texts.show_history(HISTORY),)),
    (texts.read_history, ("",)),
]


def lists_in(thing):
    """All lists and dicts that a thing is or has in it."""
    found = [thing] if isinstance(thing, (list, dict)) else []
    for inner in thing if isinstance(thing, (list, tuple, dict)) else []:
        found = found + lists_in(inner)
        if isinstance(thing, dict):
            found = found + lists_in(thing[inner])
    return found


def spoil(thing):
    for inner in lists_in(thing):
        inner.clear()
        if isinstance(inner, list):
            inner.append("spoilt")
        else:
            inner["spoilt"] = -1


class Own(unittest.TestCase):
    def test_what_is_handed_in_stays(self):
        for call, args in ASKED:
            ahead = deepcopy(args)
            call(*args)
            self.assertEqual(repr(ahead), repr(args))

    def test_what_is_refused_stays(self):
        book, other, numbers = ["a", "b", "b"], ["b", "a"], {"a": 0, "b": 3}
        for call, args in ((books.turned_pairs, (book, other)), (books.fewest_lots, (other, book)),
                           (books.book_at, (other, ["a", "b"], 3, numbers, 1)),
                           (webs.way_between, ((book, [("a", "b"), ("a", "b")]), "a", "b")),
                           (webs.side_of, (WEB, "a", "d")),
                           (moments.fault_of, ((WEB, numbers, {"a": book}),)), (moments.what_lies, (FAULTY,)),
                           (moments.history_of, (FAULTY,)), (moments.comes_by, (numbers, HISTORY)),
                           (partings.partings_of, ({"a": book, "b": other},)),
                           (partings.pairs_of, ({"a": other}, (book, other))),
                           (worlds.world_or_paper, ({"a": book, "b": other},)),
                           (worlds.least_apart, (GIVEN, "a", other)), (worlds.mouths_of, (GIVEN, other)),
                           (lines.heap_of, (other, ["c"], [other, book])), (lines.heap_of, (other, ["a"], [other])),
                           (lines.rest_of, (other, ["c"], 2, [[1], [0]])), (texts.show_book, (book,)),
                           (texts.show_web, ((book, other),)), (texts.show_history, ([("shout", book, other)],)),
                           (texts.show_moment, ((WEB, numbers, {"a": book}),)), (Desk().say, (book,)),
                           (partings.tree_places, ({"b": list("wxyz"), "a": list("xwyz"), "c": list("wxzy"),
                                                    "d": list("xwzy")},))):
            ahead = deepcopy(args)
            self.assertRaises(ApartError, call, *args)
            self.assertEqual(repr(ahead), repr(args))

    def test_the_same_asked_again_is_answered_the_same(self):
        for call, args in ASKED:
            told = call(*args)
            self.assertEqual(told, call(*args))
            self.assertEqual(told, call(*deepcopy(args)))
            self.assertIs(type(told), type(call(*args)))

    def test_lists_told_are_new_ones(self):
        for call, args in ASKED:
            told = lists_in(call(*args)) + lists_in(call(*args)) + lists_in(args)
            self.assertEqual(len(told), len({id(inner) for inner in told}) + repeated(args))

    def test_what_is_done_to_it_changes_nothing_told_later(self):
        for call, args in ASKED:
            told = call(*args)
            ahead = deepcopy(told)
            spoil(told)
            self.assertEqual(ahead, call(*args))

    def test_what_is_done_to_what_was_handed_in_changes_nothing_told(self):
        for call, args in ASKED:
            given = deepcopy(args)
            told = call(*given)
            ahead = deepcopy(told)
            spoil(given)
            self.assertEqual(ahead, told)

    def test_the_order_in_which_a_dict_was_filled(self):
        numbers = {"d": 0, "b": 1, "a": 3, "c": 2}
        for words in permutations(numbers):
            filled = {word: numbers[word] for word in words}
            self.assertIs(True, books.is_numbering(BOOK, OTHER, 3, filled))
            for place in range(4):
                self.assertEqual(books.book_at(BOOK, OTHER, 3, numbers, place),
                                 books.book_at(BOOK, OTHER, 3, filled, place))

    def test_kinds_that_are_told(self):
        for call, args in ASKED:
            told = call(*args)
            self.assertIn(type(told), (bool, int, str, list, tuple, dict, type(None)))
            for inner in told if type(told) is list else []:
                self.assertIn(type(inner), (str, tuple, list))
        self.assertEqual([list, list], [type(part) for part in NET.web()])
        self.assertEqual([tuple, dict, dict], [type(part) for part in NET.moment()])
        self.assertEqual({list}, {type(book) for book in NET.moment()[2].values()})
        self.assertEqual({tuple}, {type(road) for road in NET.web()[1]})
        self.assertEqual((dict, {tuple}, {list}), kinds_of_dict(moments.what_lies(MOMENT)))
        self.assertEqual({tuple}, {type(deed) for deed in moments.history_of(MOMENT)})
        for parting in partings.partings_of(GIVEN):
            self.assertEqual((tuple, [list, list]), (type(parting), [type(part) for part in parting]))
            self.assertEqual({tuple}, {type(pair) for pair in partings.pairs_of(GIVEN, parting)})
        for place in partings.tree_places(GIVEN):
            self.assertEqual((list, {list}), (type(place), {type(names) for names in place}))
        for told in (partings.fewest_hands(GIVEN), NET.lying(), NET.hearings_to("b", "u"),
                     worlds.least_apart(GIVEN, "a", "b"), worlds.least_apart(GIVEN, "a", "a"),
                     lines.how_many_rests(0, 3, 4), *lines.heap_of(ONES, OTHERS, REST)[0]):
            self.assertIs(int, type(told))
        self.assertEqual([("d", "a"), ("b", "a"), ("b", "c")], books.turned_pairs(BOOK, OTHER))
        self.assertIs(int, type(books.roads_between(BOOK, OTHER)))

    def test_kinds_within_worlds_papers_mouths_lines_and_texts(self):
        self.assert_moment(WORLD)
        self.assert_moment(texts.read_moment(texts.show_moment(WORLD)))
        self.assertEqual([tuple, str, tuple, tuple], [type(part) for part in (PAPER,) + PAPER])
        for books_given in (GIVEN, HALVES, {"a": ["x", "y", "z"], "b": ["z", "y", "x"]}):
            for word in books_given["a"]:
                told = worlds.mouths_of(books_given, word)
                self.assertEqual((tuple, 2, list), (type(told), len(told), type(told[0])))
                for place in told[0]:
                    self.assertEqual((list, {list}), (type(place), {type(names) for names in place}))
                if told[1] is not None:
                    self.assertEqual((tuple, [list, list]), (type(told[1]), [type(names) for names in told[1]]))
        for told in (REST, lines.heap_of(ONES, OTHERS, REST)):
            self.assertEqual((list, {list}), (type(told), {type(row) for row in told}))
        web, book, history = texts.read_web("a b\na-b"), texts.read_book("a b"), texts.read_history("shout a b")
        self.assertEqual([tuple, list, list, tuple], [type(told) for told in (web, web[0], web[1], web[1][0])])
        self.assertEqual([list, list, tuple], [type(told) for told in (book, history, history[0])])

    def assert_moment(self, told):
        web, mouths, whole = told
        self.assertEqual([tuple, tuple, list, list, dict, dict],
                         [type(part) for part in (told, web, web[0], web[1], mouths, whole)])
        self.assertEqual({tuple}, {type(road) for road in web[1]})
        self.assertEqual({list}, {type(book) for book in whole.values()})

    def test_what_worlds_lines_texts_and_desks_tell_may_be_handed_in(self):
        self.assertIs(None, moments.fault_of(WORLD))
        self.assertEqual({}, moments.what_lies(WORLD))
        self.assertIs(True, moments.comes_by(WORLD, texts.read_history(texts.show_history(moments.history_of(WORLD)))))
        self.assertIs(True, worlds.is_world(GIVEN, texts.read_moment(texts.show_moment(WORLD))))
        self.assertIs(True, worlds.is_world(WORLD[2], WORLD))
        self.assertEqual("world", worlds.world_or_paper(WORLD[2])[0])
        self.assertIs(True, worlds.is_paper(NOWHERE, PAPER))
        for one in GIVEN:
            for other in GIVEN:
                way = webs.way_between(WORLD[0], one, other)
                self.assertLessEqual(worlds.least_apart(GIVEN, one, other), len(way) - 1)
        for word in HALVES["a"]:
            places, parting = worlds.mouths_of(HALVES, word)
            self.assertTrue(all(place in partings.tree_places(HALVES) for place in places))
            self.assertEqual(places != [], parting is None)
            if parting is not None:
                self.assertTrue(partings.pairs_of(HALVES, parting))
        self.assertEqual(REST, lines.rest_of(ONES, OTHERS, len(REST), lines.heap_of(ONES, OTHERS, REST)))
        self.assertEqual([1, 1, 0], [books.roads_between(book, REST[2]) for book in REST])
        many = lines.how_many_rests(2, 2, 3)
        self.assertEqual(many + 1, lines.how_many_rests(1, 1, many))
        way = webs.way_between(WEB, "a", "b")
        self.assertEqual(way, texts.read_book(texts.show_book(way)))

    def test_what_was_told_may_be_handed_in(self):
        self.assertIs(True, books.is_book(webs.way_between(WEB, "a", "b")))
        self.assertIs(True, books.is_book(webs.side_of(WEB, "c", "d")))
        self.assertIs(True, books.is_turned_row(BOOK, OTHER, books.longest_turned(BOOK, OTHER)))
        self.assertIs(True, books.is_lots(BOOK, OTHER, books.fewest_lots(BOOK, OTHER)))
        many = books.how_many_numberings(BOOK, OTHER, 5)
        self.assertTrue(books.how_many_numberings(BOOK, OTHER, many) > many)
        middle = books.book_at(BOOK, OTHER, 3, {"d": 0, "b": 1, "a": 3, "c": 2}, 1)
        self.assertEqual([], books.turned_pairs(middle, middle))
        words = some_names(12)
        count = books.how_many_numberings(words, words, 10 ** 9)
        self.assertIs(True, books.is_numbering(["a"], ["a"], count, {"a": count}))
        self.assertEqual(["a"], books.book_at(["a"], ["a"], count, {"a": count}, count))

    def test_what_nets_moments_and_partings_tell_may_be_handed_in(self):
        self.assertEqual(["a", "c", "d", "b"], webs.way_between(NET.web(), "a", "b"))
        self.assertIs(True, books.is_book(NET.book("c")) and books.is_book(NET.lane("a", "c")))
        self.assertIs(True, moments.is_moment(NET.moment()))
        self.assertIs(None, moments.fault_of(NET.moment()))
        self.assertIs(True, moments.comes_by(NET.moment(), moments.history_of(NET.moment())))
        for one, other in moments.what_lies(MOMENT):
            self.assertIn(one, webs.side_of(NET.web(), one, other))
        for parting in partings.partings_of(GIVEN):
            for a, b in partings.pairs_of(GIVEN, parting):
                self.assertIn((a, b), books.turned_pairs(GIVEN["a"], GIVEN[parting[1][0]]))
        told = some_net()
        told.rest()
        self.assertIs(int, type(partings.fewest_hands(told.moment()[2])))
        self.assertEqual(0, books.how_many_numberings(["a", "b"], ["b", "a"], told.lying()))

    def test_nets_keep_nothing_that_they_told(self):
        net, other = some_net(), some_net()
        for call in (net.web, net.words, net.moment):
            spoil(call())
        for hand in "abcd":
            spoil(net.book(hand))
            spoil(net.next_words(hand))
            for one in "abcd":
                spoil(net.lane(hand, one))
        self.assertEqual(other.moment(), net.moment())
        self.assertEqual(other.rest(), net.rest())
        self.assertEqual(other.moment(), net.moment())

    def test_a_whole_number_is_no_truth(self):
        self.assertIs(False, books.is_numbering(["a"], ["a"], 1, {"a": True}))
        self.assertIs(False, books.is_numbering(["a"], ["a"], 1, {"a": False}))
        for call in (lambda: books.how_many_numberings(["a"], ["a"], True),
                     lambda: books.is_numbering(["a"], ["a"], False, {"a": 0}),
                     lambda: books.book_at(["a"], ["a"], 1, {"a": 0}, True)):
            self.assertRaises(ApartError, call)

    def test_odd_things_stay_as_they_are(self):
        for thing in odd_things():
            if type(thing) is list or type(thing) is tuple or type(thing) is dict:
                ahead = [id(inner) for inner in thing]
                for ask in (webs.is_web, books.is_book, lambda given: books.is_lots(BOOK, OTHER, given),
                            lambda given: books.is_turned_row(BOOK, OTHER, given),
                            lambda given: books.is_numbering(BOOK, OTHER, 3, given), moments.is_moment,
                            lambda given: moments.comes_by(MOMENT, given)):
                    ask(thing)
                self.assertEqual(ahead, [id(inner) for inner in thing])

    def test_a_hundred_things(self):
        words = some_names(100)
        web = line_web(words)
        numbers = {word: k * 10101010 for k, word in enumerate(words)}
        for _ in range(20):
            self.assertEqual(100, len(webs.way_between(web, words[0], words[99])))
            self.assertEqual(words[33], webs.meeting_of(web, words[99], words[33], words[0]))
            self.assertEqual(100, len(books.longest_turned(words, words[::-1])))
            self.assertEqual(words[::-1], books.book_at(words, words[::-1], 999999999, numbers, 999999999))


def kinds_of_dict(told):
    """The kind of a dict, and those of its keys and of what it has under them."""
    return type(told), {type(key) for key in told}, {type(told[key]) for key in told}


def repeated(args):
    """How often a list stands again among the things handed in."""
    found = lists_in(args)
    return len(found) - len({id(inner) for inner in found})


if __name__ == "__main__":
    unittest.main()
