"""Points 24 and 25: the desk, held beside a net."""

import random
import time
import unittest

from heardapart.books import roads_between
from heardapart.desk import Desk
from heardapart.errors import Alike, Empty, NoBooks, NoHand, NoNet, NoRow, NoWord, Twice, Unfinished
from heardapart.nets import Net
from heardapart.partings import fewest_hands
from heardapart.webs import way_between

from tests.odd import odd_things
from tests.trials import error_of, some_names

HANDS = ["c", "a", "d", "b", "e"]
WORDS = ["z", "x", "y", "w", "v"]
NAMES = HANDS + WORDS + ["new", "none", "open", "net", "rest"]
# How many names stand in each row.
ROWS = {"net": 1, "join": 2, "shout": 2, "step": 2, "rest": 0, "lie": 0, "hands": 0, "words": 0, "roads": 0, "book": 1,
        "lane": 2, "next": 1, "mouth": 1, "settled": 3, "few": 2, "apart": 2}
DEEDS = ("join a c", "join d c", "join b d", "shout a y", "shout b x", "shout a v", "shout d w", "step a c", "step b d",
         "step a c", "step d c", "step c d")


def led_desk(*rows):
    """A desk of a net with the first hand c, led by rows."""
    desk = Desk()
    for row in ("net c",) + rows:
        desk.say(row)
    return desk


def listed(words):
    return " ".join(words) or "none"


def known_words(net, hand, other):
    return [word for word in net.book(hand) if word in net.book(other)]


def apart_by(net, one, other):
    roads = len(way_between(net.web(), one, other)) - 1
    return f"{roads} {roads_between(known_words(net, one, other), known_words(net, other, one))}"


def guess_by(net, names):
    books = {name: net.book(name) for name in names}
    if any(len(book) < len(net.words()) for book in books.values()):
        raise Unfinished("a book has not all words")
    return str(fewest_hands(books))


def said_by(net, row):
    """What a row tells, by what a net tells."""
    kind, *names = row.split(" ")
    if kind in ("join", "shout", "step"):
        getattr(net, kind)(*names)
        return "ok"
    told = {
        "rest": lambda: str(net.rest()), "lie": lambda: str(net.lying()),
        "hands": lambda: listed(net.web()[0]), "words": lambda: listed(net.words()),
        "roads": lambda: listed(one + "-" + other for one, other in net.web()[1]),
        "book": lambda: listed(net.book(*names)), "lane": lambda: listed(net.lane(*names)),
        "next": lambda: listed(net.next_words(*names)), "mouth": lambda: net.mouth(*names),
        "settled": lambda: net.settled(*names) or "open", "few": lambda: str(net.hearings_to(*names)),
        "apart": lambda: apart_by(net, *names), "guess": lambda: guess_by(net, names),
    }
    return told[kind]()


def answer_of(call, *args):
    """What a call tells, or the class of its refusal."""
    try:
        return call(*args)
    except ValueError as error:
        return type(error)


def drawn_row(rnd):
    """A row of any kind but net, mostly of hands and words that may be there."""
    kind = rnd.choice([kind for kind in ROWS if kind != "net"] + ["guess", "join", "shout", "step", "step", "step"])
    if kind == "guess":
        return " ".join([kind] + rnd.sample(HANDS, rnd.randrange(1, 5)))
    names = [rnd.choice(HANDS + ["new"] if rnd.randrange(9) else NAMES) for _ in range(ROWS[kind])]
    if kind in ("shout", "settled", "few", "mouth"):
        k = 0 if kind == "mouth" else 1
        names[k:] = [rnd.choice(WORDS if rnd.randrange(9) else NAMES) for _ in names[k:]]
    return " ".join([kind] + names)


def all_asked():
    """All rows that ask, of some hands and words."""
    told = ["lie", "hands", "words", "roads"]
    for hand in HANDS + ["new"]:
        told += ["book " + hand, "next " + hand, "guess " + hand]
        for other in HANDS + ["new"]:
            told += ["lane " + hand + " " + other, "apart " + hand + " " + other]
            if hand != other:
                told.append("guess " + hand + " " + other)
        for word in WORDS + ["new"]:
            told += ["few " + hand + " " + word, "mouth " + word]
            told += ["settled " + hand + " " + word + " " + other for other in WORDS]
    return told


class TheNet(unittest.TestCase):
    def test_each_row_as_a_net_tells_it(self):
        found = {}
        for seed in range(120):
            rnd = random.Random(seed)
            desk, net = led_desk(), Net("c")
            for _ in range(80):
                row = drawn_row(rnd)
                wanted = answer_of(said_by, net, row)
                self.assertEqual(wanted, answer_of(desk.say, row), row)
                found.setdefault(row.split(" ")[0], set()).add(type(wanted))
            for row in all_asked()[seed % 5::5]:
                self.assertEqual(answer_of(said_by, net, row), answer_of(desk.say, row), row)
        self.assertEqual({kind for kind in ROWS if kind != "net"} | {"guess"}, set(found))
        for kind in found:
            self.assertIn(str, found[kind], kind)
            self.assertIs(kind in ("rest", "lie", "hands", "words", "roads"), type not in found[kind], kind)

    def test_a_small_one(self):
        desk = led_desk("join b c", "join a b")
        for row, told in (("shout c hay", "ok"), ("shout a egg", "ok"), ("lie", "2"), ("settled b hay egg", "open"),
                          ("few a hay", "2"), ("next b", "egg hay"), ("lane c b", "hay"), ("lane c a", "none"),
                          ("step c b", "ok"), ("settled b egg hay", "hay"), ("hands", "a b c"), ("roads", "a-b b-c"),
                          ("words", "egg hay"), ("book b", "hay"), ("mouth egg", "a"), ("apart a c", "2 0"),
                          ("rest", "3"), ("apart a c", "2 1"), ("apart c b", "1 0"), ("apart a a", "0 0"),
                          ("guess a c", "2"), ("guess b", "1"), ("guess c b a", "3"), ("lie", "0"), ("rest", "0"),
                          ("next b", "none"), ("few a hay", "0")):
            self.assertEqual(told, desk.say(row), row)

    def test_none_where_empty(self):
        desk = led_desk()
        self.assertEqual(["c", "none", "none", "none", "none", "none"],
                         [desk.say(row) for row in ("hands", "words", "roads", "book c", "lane c c", "next c")])
        self.assertEqual(["0", "0", "0 0", "1"], [desk.say(row) for row in ("lie", "rest", "apart c c", "guess c")])

    def test_apart_is_by_the_words_that_both_have(self):
        desk = led_desk("join b c", "shout c x", "shout c y", "shout b w", "shout b v")
        self.assertEqual("1 0", desk.say("apart c b"))
        desk.say("step c b")
        self.assertEqual("1 0", desk.say("apart c b"))
        desk.say("step b c")
        self.assertEqual("1 1", desk.say("apart c b"))
        self.assertEqual("1 1", desk.say("apart b c"))

    def test_another_net_in_the_place_of_it(self):
        desk = led_desk(*DEEDS)
        self.assertEqual("ok", desk.say("net new"))
        self.assertEqual(["new", "none", "0"], [desk.say(row) for row in ("hands", "words", "lie")])
        self.assertIs(NoHand, error_of(desk.say, "book c"))
        self.assertEqual("ok", desk.say("join c new"))
        self.assertEqual("ok", desk.say("shout c y"))
        self.assertEqual("ok", desk.say("net new"))
        self.assertEqual("new", desk.say("hands"))

    def test_two_desks_have_nothing_in_common(self):
        desk, other = led_desk(*DEEDS), led_desk()
        third = Desk()
        other.say("shout c u")
        self.assertEqual(["a b c d", "c"], [desk.say("hands"), other.say("hands")])
        self.assertEqual(["v w x y", "u"], [desk.say("words"), other.say("words")])
        self.assertIs(NoNet, error_of(third.say, "hands"))

    def test_asking_changes_nothing(self):
        desk, quiet = led_desk(*DEEDS), led_desk(*DEEDS)
        for _ in range(2):
            for row in all_asked():
                answer_of(desk.say, row)
        for row in all_asked() + ["rest"] + all_asked():
            self.assertEqual(answer_of(quiet.say, row), answer_of(desk.say, row))

    def test_a_second_desk_by_the_rows_of_the_first_one(self):
        for seed in range(40):
            rnd = random.Random(seed)
            desk, rows = led_desk(), []
            for _ in range(60):
                row = drawn_row(rnd)
                if type(answer_of(desk.say, row)) is str and row.split(" ")[0] in ("join", "shout", "step", "rest"):
                    rows.append(row)
            other = led_desk(*rows)
            for row in all_asked():
                self.assertEqual(answer_of(desk.say, row), answer_of(other.say, row))

    def test_what_a_desk_tells_names_what_it_knows(self):
        desk = led_desk(*DEEDS)
        for hand in desk.say("hands").split(" "):
            for word in desk.say("next " + hand).replace("none", "").split():
                self.assertIn(desk.say("mouth " + word), desk.say("hands").split(" "))
        for road in desk.say("roads").split(" "):
            self.assertEqual("1", desk.say("apart " + road.replace("-", " "))[0])


class Guess(unittest.TestCase):
    def test_of_hands_that_have_all_words(self):
        desk = led_desk(*DEEDS)
        self.assertIs(Unfinished, error_of(desk.say, "guess a b"))
        desk.say("rest")
        books = {hand: desk.say("book " + hand).split(" ") for hand in "abcd"}
        for names in ("a", "b a", "c b d", "d c a b"):
            some = {name: books[name] for name in names.split(" ")}
            self.assertEqual(str(fewest_hands(some)), desk.say("guess " + names))

    def test_unfinished(self):
        desk = led_desk("join a c", "shout a x")
        self.assertEqual("1", desk.say("guess a"))
        for names in ("c", "a c", "c a"):
            self.assertIs(Unfinished, error_of(desk.say, "guess " + names))
        desk.say("rest")
        self.assertEqual("2", desk.say("guess a c"))
        desk.say("join b c")
        self.assertIs(Unfinished, error_of(desk.say, "guess b"))
        self.assertEqual("2", desk.say("guess c a"))

    def test_no_hand_ahead_of_unfinished(self):
        desk = led_desk("join a c", "shout a x")
        for names in ("new", "c new", "new c", "a new", "x"):
            self.assertIs(NoHand, error_of(desk.say, "guess " + names))

    def test_no_books_behind_unfinished(self):
        words = some_names(21)
        desk = led_desk("join a c", *["shout c " + word for word in words[:20]])
        self.assertEqual("1", desk.say("guess c"))
        desk.say("shout c " + words[20])
        self.assertIs(NoBooks, error_of(desk.say, "guess c"))
        self.assertIs(Unfinished, error_of(desk.say, "guess a c"))
        self.assertIs(NoHand, error_of(desk.say, "guess a c new"))
        self.assertIs(NoRow, error_of(desk.say, "guess a c c"))
        desk.say("rest")
        self.assertIs(NoBooks, error_of(desk.say, "guess a c"))

    def test_one_to_twelve_unlike_names(self):
        names = some_names(13)
        desk = led_desk(*["join " + name + " c" for name in names], "shout c x", "rest")
        for many in range(1, 13):
            self.assertEqual(str(many), desk.say("guess " + " ".join(names[:many])))
        for row in ("guess", "guess " + " ".join(names), "guess aa aa", "guess new new", "guess aa ab ac aa"):
            self.assertIs(NoRow, error_of(desk.say, row))


class Refusals(unittest.TestCase):
    def rows(self):
        """A row of each kind that the desk does or answers."""
        names = {"net": "a", "join": "e c", "shout": "c z", "step": "c d", "book": "a", "lane": "a c", "next": "d",
                 "mouth": "y", "settled": "c y x", "few": "b y", "apart": "a b"}
        return ["guess c"] + [(kind + " " + names.get(kind, "")).strip() for kind in ROWS]

    def bad_rows(self):
        """Rows that are near to those, but none."""
        for row in self.rows():
            kind, *names = row.split(" ")
            yield from (row + " ", " " + row, row + "\n", row + "\t", row.upper(), row.replace(" ", "  ", 1) + "  ",
                        row + "x" * 9, " ".join([kind + "s"] + names), kind[:-1], row + " A",
                        row + " a-b", row + " 1", row.replace(" ", "\t") + "\t", row + "\x00", "\ufeff" + row,
                        row + "\u00a0")
            if kind != "guess":
                yield from (row + " a", row + " a b")
            if names:
                yield from (" ".join([kind] + names[1:]), " ".join([kind] + names[:-1] + ["A"]),
                            " ".join([kind] + names[:-1] + ["abcdefghi"]), " ".join([kind] + names[:-1] + [""]),
                            " ".join([kind, ""] + names[1:]), row.replace(" ", "\n"), row.replace(" ", ","))
        yield from ("", " ", "  ", "\n", "none", "ok", "mouths x", "hear c a x", "hand", "say", "moment", "web",
                    "world a b", "open", "settled c y", "settled c y x v", "join", "a", "x" * 2000, " " * 2000,
                    "net " * 500)

    def test_no_row_of_anything(self):
        for k, thing in enumerate(odd_things() + [["rest"], ("rest",), b"rest", {"rest": 0}, None]):
            with self.subTest(k):
                for desk in (Desk(), led_desk(*DEEDS)):
                    self.assertIs(NoRow, error_of(desk.say, thing))
                    self.assertIs(NoRow, error_of(desk.say, [thing]))

    def test_no_row_first_of_all(self):
        for row in self.bad_rows():
            self.assertIs(NoRow, error_of(Desk().say, row), repr(row))
            self.assertIs(NoRow, error_of(led_desk(*DEEDS).say, row), repr(row))

    def test_no_net(self):
        for row in self.rows():
            self.assertIs(None if row == "net a" else NoNet, error_of(Desk().say, row), row)
            self.assertIs(Unfinished if row == "guess c" else None, error_of(led_desk(*DEEDS).say, row), row)
        for row in ("join a a", "guess new", "mouth new", "step a b", "settled a x x"):
            self.assertIs(NoNet, error_of(Desk().say, row))

    def test_as_the_net_refuses(self):
        desk = led_desk(*DEEDS)
        for row, wanted in (("join a new", Twice), ("join new new", NoHand), ("join e x", NoHand),
                            ("shout new z", NoHand), ("shout c y", Twice), ("shout new y", NoHand),
                            ("step a b", Empty), ("step a a", Empty), ("step new a", NoHand), ("step a new", NoHand),
                            ("book y", NoHand), ("lane a new", NoHand), ("lane new a", NoHand), ("next new", NoHand),
                            ("mouth a", NoWord), ("settled new new new", NoHand), ("settled a new new", NoWord),
                            ("settled a y new", NoWord), ("settled a y y", Alike), ("few new new", NoHand),
                            ("few a new", NoWord), ("apart a new", NoHand), ("apart new a", NoHand),
                            ("apart new new", NoHand), ("guess new", NoHand)):
            self.assertIs(wanted, error_of(desk.say, row), row)

    def test_what_is_refused_changes_nothing(self):
        desk, quiet = led_desk(*DEEDS), led_desk(*DEEDS)
        for row in list(self.bad_rows()) + ["join a c", "join new new", "shout c y", "shout new z", "step a b", "net A",
                                            "net", "net a b", "guess a b", "guess new", "net a ", "rest a"]:
            self.assertIsNot(None, error_of(desk.say, row), row)
        for row in all_asked() + ["rest"] + all_asked():
            self.assertEqual(answer_of(quiet.say, row), answer_of(desk.say, row))
        desk = Desk()
        for row in ("net A", "net", "join a b", "net a b"):
            self.assertIsNot(None, error_of(desk.say, row))
        self.assertIs(NoNet, error_of(desk.say, "hands"))


class Long(unittest.TestCase):
    def test_a_net_of_a_hundred_hands(self):
        names = some_names(100)
        start = time.monotonic()
        desk = Desk()
        desk.say("net " + names[0])
        for a, b in zip(names, names[1:]):
            desk.say("join " + b + " " + a)
        for k, word in enumerate(some_names(200)):
            desk.say("shout " + names[k * 37 % 100] + " " + word)
        self.assertEqual(str(200 * 99), desk.say("rest"))
        self.assertEqual("99", desk.say("apart " + names[0] + " " + names[99]).split(" ")[0])
        self.assertIs(NoBooks, error_of(desk.say, "guess " + " ".join(names[::9])))
        self.assertEqual(200, len(desk.say("book " + names[50]).split(" ")))
        self.assertLess(time.monotonic() - start, 4)

    def test_two_hands_with_ten_thousand_words(self):
        desk = led_desk("join a c")
        letters = "abcdefghijklmnopqrstuvwxyz"
        words = [one + word for one in letters[:15] for word in some_names(676)]
        start = time.monotonic()
        for k, word in enumerate(words):
            desk.say("shout " + "ac"[k % 2] + " " + word)
        self.assertEqual(str(len(words)), desk.say("rest"))
        self.assertEqual("1 1", desk.say("apart a c"))
        self.assertEqual("0", desk.say("few a " + words[-1]))
        self.assertLess(time.monotonic() - start, 4)


if __name__ == "__main__":
    unittest.main()
