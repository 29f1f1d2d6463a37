"""What the tests of partings hold the program against: looks at all names, all words, and all webs."""

from itertools import combinations, permutations, product

from tests.plain_nets import drawn_nets
from tests.trials import lane_lets, ways_by_trial


def books_of(*rows):
    """Given books of the names a, b, c and so on, of words that are letters."""
    return {name: list(row) for name, row in zip("abcdefghijkl", rows)}


def all_given(names, words):
    """All books of so many names and of such words, the first name's book as the words stand."""
    for rows in product(permutations(words), repeat=names - 1):
        yield books_of(words, *rows)


def drawn_given(rnd, hands, words, names):
    """Books of some hands of a drawn net at rest, and how many hands it has."""
    net, _ = drawn_nets(rnd, hands, words, 12 * len(hands))
    for word in words:
        if word not in net.words():
            net.shout(rnd.choice(net.web()[0]), word)
    net.rest()
    stood = net.web()[0]
    chosen = rnd.sample(stood, min(names, len(stood)))
    return {name: net.book(name) for name in chosen}, len(stood)


def stands_ahead(book, a, b):
    return book.index(a) < book.index(b)


def partings_by_trial(books):
    """All partings, by a look at all ways to part the names, and at each two words."""
    least, *names = sorted(books)
    found = []
    for many in range(1, len(names) + 1):
        for other in combinations(names, many):
            one = [name for name in [least] + names if name not in other]
            if any(turns(books, (one, list(other)), a, b) for a, b in permutations(books[least], 2)):
                found.append((one, list(other)))
    return sorted(found)


def turns(books, parting, a, b):
    """Whether a stands ahead of b in all books of the first list, behind it in all of the other."""
    one, other = parting
    return all(stands_ahead(books[name], a, b) for name in one) and \
        all(stands_ahead(books[name], b, a) for name in other)


def pairs_by_trial(books, parting):
    """All pairs of words that a parting turns, by their places in the book of the least name."""
    book = books[min(books)]
    return [(a, b) for a in book for b in book if a != b and turns(books, parting, a, b)]


def cross_by_trial(partings):
    """Whether some two partings cross."""
    return any(set(a) & set(c) and set(b) & set(d) and set(a) & set(d) and set(b) & set(c)
               for (a, b), (c, d) in combinations(partings, 2))


def places_by_trial(partings):
    """All ways to choose one list of each parting so that any two have a name in common, in order."""
    return sorted([list(place) for place in product(*partings)
                   if all(set(one) & set(other) for one, other in combinations(place, 2))])


def longest_by_trial(books, parting):
    """How many words the longest row of a parting has, by a look at all rows."""
    words = books[min(books)]
    pairs = pairs_by_trial(books, parting)
    return max(many for many in range(len(words) + 1) for row in combinations(words, many)
               if all(pair in pairs for pair in combinations(row, 2)))


def has_corners(books):
    """Whether there is a paper of corners: two pairs of words which some books have in all four orders."""
    pairs = list(permutations(books[min(books)], 2))
    for (a, b), (c, d) in product(pairs, pairs):
        if len({(stands_ahead(book, a, b), stands_ahead(book, c, d)) for book in books.values()}) == 4:
            return True
    return False


def order_of(book, words):
    return tuple(word for word in book if word in words)


def has_round(books):
    """Whether there is a paper of three words that go round."""
    for a, b, c in permutations(books[min(books)], 3):
        orders = [order_of(book, (a, b, c)) for book in books.values()]
        if (a, b, c) in orders and (b, c, a) in orders and (c, a, b) in orders:
            return True
    return False


def has_behind(books):
    """Whether there is a paper of a word that stands between two others, either way about, and behind both."""
    for w, u, v in permutations(books[min(books)], 3):
        wanted = [(True, False), (False, True), (False, False)]
        found = [(stands_ahead(book, w, u), stands_ahead(book, w, v)) for book in books.values()]
        if all(one in found for one in wanted):
            return True
    return False


def has_paper(books):
    return has_corners(books) or has_round(books) or has_behind(books)


def fewest_by_words(books):
    """How few hands a web can have, as the words of point 19 tell it."""
    if has_paper(books):
        return None
    partings = partings_by_trial(books)
    stood = [[names for parting in partings for names in parting if name in names] for name in books]
    bare = [place for place in places_by_trial(partings) if place not in stood]
    return len(books) + len(bare) + sum(longest_by_trial(books, parting) - 2 for parting in partings)


def all_webs(hands):
    """All webs of such hands."""
    roads = [(min(pair), max(pair)) for pair in combinations(hands, 2)]
    for chosen in combinations(roads, len(hands) - 1):
        if all(len(ways_by_trial((hands, list(chosen)), hands[0], hand)) == 1 for hand in hands):
            yield hands, list(chosen)


def fewest_by_webs(books, most):
    """How few hands, up to so many, a web has that gives these books, by a trial of all webs and mouths."""
    words = books[min(books)]
    for many in range(len(books), most + 1):
        new = ["new" + "abcdefgh"[k] for k in range(many - len(books))]
        for web in all_webs(sorted(books) + new):
            sides = [(a, b, [hand for hand in web[0] if b not in ways_by_trial(web, hand, a)[0]]) for a, b in web[1]]
            for mouths in product(web[0], repeat=len(words)):
                if some_books_fit(books, new, words, roads_by(sides, words, mouths)):
                    return many
    return None


def roads_by(sides, words, mouths):
    """Each road with the words that have their mouths on the first hand's side."""
    return [(a, b, [word for word, mouth in zip(words, mouths) if mouth in side]) for a, b, side in sides]


def some_books_fit(books, new, words, roads):
    """Whether all roads let the books, with some books of the new hands."""
    known = [row for row in roads if row[0] in books and row[1] in books]
    if not all(road_lets(books, row, words) for row in known):
        return False
    for told in product([list(book) for book in permutations(words)], repeat=len(new)):
        whole = {**books, **dict(zip(new, told))}
        if all(road_lets(whole, row, words) for row in roads):
            return True
    return False


def road_lets(books, row, words):
    a, b, near = row
    far = [word for word in words if word not in near]
    return lane_lets(books[a], books[b], near) and lane_lets(books[b], books[a], far)
