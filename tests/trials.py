"""What the tests hold the program's answers against: trials of all there is, and webs and books to try."""

from itertools import combinations, permutations, product


def error_of(call, *args):
    """The very class of the error that a call raises, or None."""
    try:
        call(*args)
    except Exception as error:
        return type(error)
    return None


def some_names(many):
    """So many unlike names, in order."""
    letters = "abcdefghijklmnopqrstuvwxyz"
    return sorted(a + b for a, b in list(product(letters, letters))[:many])


def road(one, other):
    return (min(one, other), max(one, other))


def line_web(hands):
    return list(hands), [road(a, b) for a, b in zip(hands, hands[1:])]


def star_web(hands):
    return list(hands), [road(hands[0], b) for b in hands[1:]]


def grown_web(hands, below):
    """The web in which the hand of number k stands beside that of number below[k - 1]."""
    return list(hands), [road(hands[at], hand) for at, hand in zip(below, hands[1:])]


def grown_webs(hands):
    """Webs of all shapes that such hands can have."""
    for below in product(*[range(k) for k in range(1, len(hands))]):
        yield grown_web(hands, below)


def all_roads(hands):
    return [road(a, b) for a, b in combinations(hands, 2)]


def ways_by_trial(web, one, other):
    """All ways without a hand twice from the one to the other."""
    found = []
    waiting = [[one]]
    while waiting:
        way = waiting.pop()
        if way[-1] == other:
            found.append(way)
            continue
        for hand in web[0]:
            if hand not in way and road(way[-1], hand) in web[1]:
                waiting.append(way + [hand])
    return found


def turned_by_trial(book, other):
    found = []
    for a in book:
        for b in book:
            if book.index(a) < book.index(b) and other.index(a) > other.index(b):
                found.append((a, b))
    return found


def rows_by_trial(book, other):
    """All turned rows."""
    turned = turned_by_trial(book, other)
    found = []
    for many in range(len(book) + 1):
        for row in combinations(book, many):
            if all(pair in turned for pair in combinations(row, 2)):
                found.append(list(row))
    return found


def parts_by_trial(words):
    """All ways to part the words into lots."""
    if words == []:
        return [[]]
    found = []
    for parts in parts_by_trial(words[1:]):
        found.append([[words[0]]] + parts)
        for k in range(len(parts)):
            found.append(parts[:k] + [[words[0]] + parts[k]] + parts[k + 1:])
    return found


def dicts_by_trial(book, roads):
    """All dicts from the words to the numbers from 0 to the roads."""
    return [dict(zip(book, row)) for row in product(range(roads + 1), repeat=len(book))]


def numberings_by_trial(book, other, roads):
    turned = turned_by_trial(book, other)
    return [told for told in dicts_by_trial(book, roads) if all(told[a] < told[b] for a, b in turned)]


def books_by_trial(words):
    return [list(row) for row in permutations(words)]


def book_by_words(book, other, numbering, place):
    """The book at a place, as the words of the document tell who stands ahead of whom."""
    def ahead(a, b):
        if (numbering[a] <= place) == (numbering[b] <= place):
            named = other if numbering[a] <= place else book
            return named.index(a) < named.index(b)
        if numbering[a] > place:
            return not ahead(b, a)
        between = [c for c in book if numbering[c] <= place and book.index(c) > book.index(b)
                   and other.index(c) < other.index(a)]
        return book.index(a) < book.index(b) and between == []
    for told in permutations(book):
        if all(ahead(a, b) for a, b in combinations(told, 2)):
            return list(told)
    return None


def lane_lets(sender, hearer, words):
    """Whether a lane lets two whole books, words those with mouths on the sender's side (point 15)."""
    if [word for word in hearer if word in words] != [word for word in sender if word in words]:
        return False
    turned = turned_by_trial(hearer, sender)
    return not any(a in words and b not in words for a, b in turned)


def line_lets(books, numbering):
    """Whether all lanes of a line let its whole books, by the places of the mouths."""
    for k in range(len(books) - 1):
        near = [word for word in numbering if numbering[word] <= k]
        far = [word for word in numbering if numbering[word] > k]
        if not lane_lets(books[k], books[k + 1], near) or not lane_lets(books[k + 1], books[k], far):
            return False
    return True
