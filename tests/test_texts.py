"""Point 23: webs, books, moments and histories as texts."""

import random
import time
import unittest
from itertools import permutations, product

from heardapart.errors import NoText
from heardapart.moments import comes_by, history_of, is_moment
from heardapart.texts import read_book, read_history, read_moment, read_web, show_book, show_history, show_moment, \
    show_web

from tests.moment_trials import all_deeds, drawn_moments
from tests.odd import odd_things
from tests.plain_nets import net_of, plain_net_of
from tests.trials import error_of, grown_web, line_web, some_names, star_web

SHOWS = (show_web, show_book, show_moment, show_history)
READS = (read_web, read_book, read_moment, read_history)
WEB = (["c", "a", "dan", "b"], [("b", "c"), ("a", "c"), ("c", "dan")])
WEB_ROWS = ["a b c dan", "a-c", "b-c", "c-dan"]
MOMENT = (WEB, {"hay": "dan", "egg": "a", "oak": "b"}, {"dan": ["hay"], "c": ["egg", "hay"], "b": [], "a": ["egg"]})
MOMENT_ROWS = WEB_ROWS + ["a: egg", "b: -", "c: egg hay", "dan: hay", "egg@a", "hay@dan", "oak@b"]
HISTORY = [("shout", "dan", "hay"), ("hear", "dan", "c", "hay"), ("hear", "x", "x", "y"), ("shout", "shout", "hear")]
HISTORY_ROWS = ["shout dan hay", "hear dan c hay", "hear x x y", "shout shout hear"]
SIGNS = [" ", "-", ":", "@", "\n", "\t", "a", "b", "z", "A", "1", "", "\r", "\x00", "\u00e9", ".", "  ", "\n\n", ": ",
         " -"]


def in_order(web):
    return sorted(web[0]), sorted(web[1])


def drawn_webs(many):
    for seed in range(many):
        rnd = random.Random(seed)
        hands = rnd.sample(some_names(40), rnd.randrange(1, 12))
        hands, roads = grown_web(hands, [rnd.randrange(k) for k in range(1, len(hands))])
        rnd.shuffle(roads)
        yield hands, roads


def near_to(text):
    """Texts that are near to a text: a sign more, fewer or otherwise, a row more, fewer, otherwise or elsewhere."""
    for k in range(len(text) + 1):
        for sign in SIGNS:
            yield text[:k] + sign + text[k:]
            yield text[:k] + sign + text[k + 1:]
    rows = text.split("\n")
    for k in range(len(rows)):
        yield "\n".join(rows[:k] + rows[k + 1:])
        yield "\n".join(rows[:k] + [""] + rows[k:])
        for row in rows + ["", "-", "a", "a-b", "a: -", "a@a", "shout a b"]:
            yield "\n".join(rows[:k] + [row] + rows[k:])
            yield "\n".join(rows[:k] + [row] + rows[k + 1:])


class Webs(unittest.TestCase):
    def test_as_it_is_written(self):
        self.assertEqual("\n".join(WEB_ROWS), show_web(WEB))
        self.assertEqual("a", show_web((["a"], [])))
        self.assertEqual("a b\na-b", show_web((["b", "a"], [("a", "b")])))

    def test_each_is_read_back_in_order(self):
        for web in drawn_webs(150):
            self.assertEqual(in_order(web), read_web(show_web(web)))

    def test_one_writing_whatever_order_its_lists_have(self):
        for hands in permutations(WEB[0]):
            for roads in permutations(WEB[1]):
                self.assertEqual("\n".join(WEB_ROWS), show_web((list(hands), list(roads))))

    def test_small_texts(self):
        # All that may be written by these rows, held against all webs of the hands.
        hands = ["a", "b", "c", "a b", "b a", "a c", "a b c", "c b a", "a  b", "", "a b b"]
        roads = ["a-b", "b-c", "a-c", "b-a", "a-a", "a-b-c", "-", ""]
        known = [show_web(web) for web in some_webs()]
        for first in hands:
            for many in range(4):
                for rows in product(roads, repeat=many):
                    text = "\n".join([first, *rows])
                    self.assertIs(None if text in known else NoText, error_of(read_web, text), text)

    def test_a_hundred_hands(self):
        for web in (line_web(some_names(100)), star_web(some_names(100))):
            start = time.monotonic()
            self.assertEqual(in_order(web), read_web(show_web(web)))
            self.assertLess(time.monotonic() - start, 1)


def some_webs():
    """All webs of one to three of the hands a, b and c."""
    yield from [(["a"], []), (["b"], []), (["c"], []), (["a", "b"], [("a", "b")]), (["a", "c"], [("a", "c")])]
    for roads in ([("a", "b"), ("b", "c")], [("a", "b"), ("a", "c")], [("a", "c"), ("b", "c")]):
        yield ["a", "b", "c"], roads


class Books(unittest.TestCase):
    def test_as_it_is_written(self):
        self.assertEqual("hay egg oak", show_book(["hay", "egg", "oak"]))
        self.assertEqual("hay", show_book(["hay"]))
        self.assertEqual("-", show_book([]))

    def test_each_is_read_back(self):
        for many in range(5):
            for book in permutations(["a", "none", "abcdefgh", "z"], many):
                self.assertEqual(list(book), read_book(show_book(list(book))))
        self.assertEqual([], read_book("-"))
        self.assertEqual(some_names(100), read_book(show_book(some_names(100))))

    def test_no_writing(self):
        for text in ("", " ", "a a", "a b a", "A", "a  b", " a", "a ", "- -", "a -", "--", "abcdefghi", "a\nb", "-\n",
                     "\n", "a\tb", "a-b", "-a", "\u00e9", "a" * 2000, "a " * 1000):
            self.assertIs(NoText, error_of(read_book, text))
        for book in (["a", "a"], ["A"], [""], ["-"], ["a b"], ("a",), "a", {"a": 0}, [["a"]], None, ["a", None]):
            self.assertIs(NoText, error_of(show_book, book))


class Moments(unittest.TestCase):
    def test_as_it_is_written(self):
        self.assertEqual("\n".join(MOMENT_ROWS), show_moment(MOMENT))
        self.assertEqual("a\na: -", show_moment(((["a"], []), {}, {"a": []})))
        self.assertEqual("a\na: x\nx@a", show_moment(((["a"], []), {"x": "a"}, {"a": ["x"]})))

    def test_each_is_read_back(self):
        for moment, _ in drawn_moments(150):
            told = read_moment(show_moment(moment))
            self.assertEqual((in_order(moment[0]), moment[1], moment[2]), told)
            self.assertEqual([sorted(moment[1]), sorted(moment[2])], [list(told[1]), list(told[2])])
            self.assertEqual(show_moment(moment), show_moment(told))

    def test_with_a_fault_too(self):
        moment = ((["a", "b"], [("a", "b")]), {"x": "b"}, {"a": ["x"], "b": []})
        self.assertEqual("a b\na-b\na: x\nb: -\nx@b", show_moment(moment))
        self.assertEqual(moment, read_moment(show_moment(moment)))

    def test_dicts_filled_in_the_order_of_the_rows(self):
        told = read_moment("\n".join(MOMENT_ROWS))
        self.assertEqual((in_order(WEB), MOMENT[1], MOMENT[2]), told)
        self.assertEqual(["egg", "hay", "oak"], list(told[1]))
        self.assertEqual(["a", "b", "c", "dan"], list(told[2]))

    def test_rows_otherwise(self):
        for k, row in enumerate(MOMENT_ROWS):
            for other in ("a: egg hay", "b:-", "b: ", "b:  -", "c: egg  hay", "c: egg egg", "c: egg new", "z: -",
                          "egg@z", "egg@b@b", "new@a", "egg@", "@a", "egg @a", "a : egg", "a: egg: hay", "egg: a"):
                text = "\n".join(MOMENT_ROWS[:k] + [other] + MOMENT_ROWS[k + 1:])
                if (k, other) not in ((4, "a: egg hay"), (10, "new@a")):
                    self.assertIs(NoText, error_of(read_moment, text), text)
        text = "\n".join(MOMENT_ROWS[:4] + ["a: egg hay"] + MOMENT_ROWS[5:])
        self.assertEqual(["egg", "hay"], read_moment(text)[2]["a"])

    def test_a_hundred_hands_with_twenty_words(self):
        net = net_of(plain_net_of(line_web(some_names(100))))
        for k, word in enumerate(some_names(20)):
            net.shout(some_names(100)[k * 5], word)
        net.rest()
        start = time.monotonic()
        self.assertEqual(net.moment(), read_moment(show_moment(net.moment())))
        self.assertLess(time.monotonic() - start, 1)


class Histories(unittest.TestCase):
    def test_as_it_is_written(self):
        self.assertEqual("\n".join(HISTORY_ROWS), show_history(HISTORY))
        self.assertEqual("", show_history([]))
        self.assertEqual([], read_history(""))

    def test_each_is_read_back(self):
        self.assertEqual(HISTORY, read_history(show_history(HISTORY)))
        for moment, _ in drawn_moments(100):
            history = history_of(moment)
            told = read_history(show_history(history))
            self.assertEqual(history, told)
            self.assertIs(True, comes_by(moment, told))

    def test_deeds_one_by_one(self):
        deeds = all_deeds(WEB, ["x", "shout"])
        self.assertEqual(deeds, read_history(show_history(deeds)))
        for deed in deeds:
            self.assertEqual(" ".join(deed), show_history([deed]))
            self.assertEqual([deed, deed], read_history("\n".join([" ".join(deed)] * 2)))

    def test_no_writing(self):
        for text in ("shout a", "shout a b c", "hear a b", "hear a b c d", "step a b c", "Shout a b", "shout  a b",
                     "shout a b ", " shout a b", "shout a b\n", "\nshout a b", "\n", " ", "-", "shout", "shout A b",
                     "shout a b\n\nshout a b", "shout a b\r\nshout a b", "shout\na b", "rest", "shout a abcdefghi"):
            self.assertIs(NoText, error_of(read_history, text))
        for deed in (["shout", "a", "b"], ("shout", "a"), ("shout", "a", "b", "c"), ("hear", "a", "b"),
                     ("step", "a", "b"), ("hear", "a", "b", "c", "d"), (), ("shout",), "shout a b",
                     ("shout", "a", "B"), ("shout", "a", None), ("shout", ["a"], "b"), (["shout"], "a", "b"),
                     (None, "a", "b"), ("shout", "a b", "c"), None, 3):
            for history in ([deed], HISTORY + [deed], [deed] + HISTORY, deed, (deed,), {0: deed}):
                self.assertIs(NoText, error_of(show_history, history))
        self.assertIs(NoText, error_of(show_history, tuple(HISTORY)))

    def test_two_thousand_deeds(self):
        history = [("hear", "abcdefgh", "hgfedcba", word + "abcdef") for word in some_names(400)] * 5
        start = time.monotonic()
        self.assertEqual(history, read_history(show_history(history)))
        self.assertLess(time.monotonic() - start, 1)


class OneWriting(unittest.TestCase):
    def test_what_is_near_to_a_writing_is_another_one_or_none(self):
        texts = ["\n".join(rows) for rows in (WEB_ROWS, MOMENT_ROWS, HISTORY_ROWS)] + ["hay egg", "-", "", "a\na: -"]
        for text in texts:
            for other in near_to(text):
                for show, read in zip(SHOWS, READS):
                    error = error_of(read, other)
                    if error is None:
                        self.assertEqual(other, show(read(other)))
                    else:
                        self.assertIs(NoText, error, other)

    def test_writings_of_one_kind_are_mostly_none_of_another(self):
        for k, text in enumerate(("\n".join(WEB_ROWS), "hay egg oak", "\n".join(MOMENT_ROWS),
                                  "\n".join(HISTORY_ROWS))):
            wanted = [None if k == one else NoText for one in range(4)]
            self.assertEqual(wanted, [error_of(read, text) for read in READS])

    def test_drawn_texts(self):
        for seed in range(400):
            rnd = random.Random(seed)
            many = rnd.randrange(1, 2000 if seed < 9 else 9)
            text = "".join(rnd.choice(SIGNS + ["shout ", "hear ", "a-b"]) for _ in range(many))
            for show, read in zip(SHOWS, READS):
                error = error_of(read, text)
                self.assertTrue(error is NoText or error is None and show(read(text)) == text)

    def test_anything(self):
        for k, thing in enumerate(odd_things()):
            with self.subTest(k):
                for read in READS:
                    if type(thing) is not str:
                        self.assertIs(NoText, error_of(read, thing))
                    self.assertIs(NoText, error_of(read, [thing]))
                for show in SHOWS:
                    for wrong in ((thing, thing), [[thing]], [thing, thing, thing], (thing, thing, thing),
                                  [("shout", "a", thing)], [("hear", thing, "a", "b")], [(thing, "a", "b")],
                                  (WEB, {"x": thing}, {}), (WEB, MOMENT[1], {**MOMENT[2], "a": [thing]})):
                        self.assertIs(NoText, error_of(show, wrong))
                self.assertIs(NoText, error_of(show_moment, thing))
                if type(thing) is not list or thing != []:
                    self.assertIs(NoText, error_of(show_book, thing))
                    self.assertIs(NoText, error_of(show_history, thing))
                self.assertIs(NoText, error_of(show_web, thing))

    def test_what_is_none(self):
        for web in ((["a", "b"], []), (["a"], [("a", "a")]), ([], []), ["a", []], (["a", "b"], [("b", "a")])):
            self.assertIs(NoText, error_of(show_web, web))
        for moment in ((WEB, {}, {}), (WEB, MOMENT[1], {**MOMENT[2], "z": []}), (WEB, {}, MOMENT[2]), list(MOMENT)):
            self.assertFalse(is_moment(moment))
            self.assertIs(NoText, error_of(show_moment, moment))


if __name__ == "__main__":
    unittest.main()
