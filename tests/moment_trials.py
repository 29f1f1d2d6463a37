"""What the tests of moments hold the program against: the words of point 15, and deeds done one by one."""

import random
from itertools import combinations_with_replacement, permutations, product

from tests.plain_nets import drawn_nets, plain_net_of
from tests.trials import grown_webs, ways_by_trial

LINE = (["a", "b", "c"], [("a", "b"), ("b", "c")])
PAIR = (["a", "b"], [("a", "b")])


def line_moment(a, b, c):
    """A moment of three hands, of words that are letters."""
    return LINE, {"x": "a", "y": "c", "z": "b"}, {"a": list(a), "b": list(b), "c": list(c)}


def pair_moment(mouths, a, b):
    """A moment of two hands, of words that are letters."""
    return PAIR, mouths, {"a": list(a), "b": list(b)}


def all_mouths(hands, words):
    """All ways to give the words mouths, but for other names of the words."""
    return [dict(zip(words, mouths)) for mouths in combinations_with_replacement(hands, len(words))]


def small_webs():
    """Webs of up to four hands, each with as many words as can be tried with it."""
    for hands, words in ((["a"], "xyz"), (["a", "b"], "xyz"), (["b", "a", "c"], "zx"), (["c", "a", "b"], "xy"),
                         (["a", "b", "c", "d"], "x"), (["d", "b", "a", "c"], "yx")):
        for web in grown_webs(hands):
            yield web, words


def drawn_moments(many):
    """Moments of drawn nets, and what lies in them."""
    for seed in range(many):
        rnd = random.Random(seed)
        _, plain = drawn_nets(rnd, ["c", "a", "f", "d", "b", "e"], ["w", "z", "x", "y", "v"], rnd.randrange(40))
        yield plain.moment(), {lane: plain.lanes[lane] for lane in plain.filled()}


def partial_books(words):
    """All books of some of the words."""
    return [list(book) for many in range(len(words) + 1) for book in permutations(words, many)]


def moments_by_trial(web, mouths):
    """All moments of a web by some mouths."""
    for books in product(partial_books(list(mouths)), repeat=len(web[0])):
        yield web, dict(mouths), dict(zip(web[0], books))


def sides_by_trial(web):
    """For each lane, in order, the hands on the side of the one that sends."""
    lanes = sorted(web[1] + [road[::-1] for road in web[1]])
    return {(x, y): [hand for hand in web[0] if y not in ways_by_trial(web, hand, x)[0]] for x, y in lanes}


def sides_of_a_line(hands):
    """The same for a line of hands, one behind the other."""
    told = {}
    for k in range(len(hands) - 1):
        told[hands[k], hands[k + 1]] = hands[:k + 1]
        told[hands[k + 1], hands[k]] = hands[k + 1:]
    return {lane: told[lane] for lane in sorted(told)}


def fault_by_words(moment, sides):
    """The fault of a moment, as the words of the document tell it."""
    _, mouths, books = moment
    for (x, y), side in sides.items():
        ones = [word for word in books[x] if mouths[word] in side]
        heard = [word for word in books[y] if mouths[word] in side]
        for k, word in enumerate(heard):
            if k >= len(ones) or ones[k] != word:
                return x, y, word, None
        for k, word in enumerate(books[y]):
            for other in books[y][k + 1:]:
                if word in heard and other not in heard and other in books[x] \
                        and books[x].index(other) < books[x].index(word):
                    return x, y, word, other
    return None


def lies_by_words(moment, sides):
    """What lies in a moment: on each lane the words of the one's side that the other has not, in order."""
    _, mouths, books = moment
    told = {}
    for (x, y), side in sides.items():
        letters = [word for word in books[x] if mouths[word] in side and word not in books[y]]
        if letters:
            told[x, y] = sorted(letters)
    return told


def led_to(web, mouths, history):
    """The books to which deeds lead, one by one, from empty ones; None, where one of them can not be done."""
    net = plain_net_of(web)
    for kind, *deed in history:
        if kind == "shout":
            hand, word = deed
            if mouths.get(word) != hand or word in net.mouths:
                return None
            net.shout(hand, word)
        else:
            hand, other, word = deed
            if net.lanes[hand, other][:1] != [word]:
                return None
            net.step(hand, other)
    return net.books


def all_deeds(web, words):
    """All deeds of a web and some words, whether they can be done or not."""
    lanes = web[1] + [road[::-1] for road in web[1]]
    shouts = [("shout", hand, word) for hand in web[0] for word in words]
    return shouts + [("hear", hand, other, word) for hand, other in lanes for word in words]
