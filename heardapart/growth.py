"""How a world grows of given books that could be heard: places first, then the ways between them (point 20)."""

from itertools import combinations

from heardapart.books import book_at, ranks_of
from heardapart.partings import pairs_by_others, partings_by, places_by

LETTERS = "abcdefghijklmnopqrstuvwxyz"


class Growth:
    """A world with as few hands as there can be.

    A place is written as a tuple of numbers, 0 or 1 for each parting: which of its lists the place chose.
    """

    def __init__(self, books):
        pairs = pairs_by_others(books)
        self._partings = partings_by(books, pairs)
        self._turned = [pairs[tuple(others)] for _, others in self._partings]
        self._places = places_in_numbers(self._partings)
        self._spare = spare_names(books)
        self._roads = []
        self._books = {}
        # Of each place the hand from which the ways to other places go.
        self._heads = {}
        for place in self._places:
            self._settle(place, books)
        self._homes = {word: self._home_of(word) for word in sorted(books[min(books)])}
        self._mouths = {word: self._heads[self._homes[word]] for word in self._homes}
        for k in range(len(self._partings)):
            self._lead_way(k)

    def told_moment(self):
        """Tell the moment: the web, all mouths and all books."""
        hands = sorted(self._books)
        roads = sorted([(min(road), max(road)) for road in self._roads])
        return ((hands, roads), dict(self._mouths), {hand: self._books[hand] for hand in hands})

    def _settle(self, place, books):
        """Let all names of a place stand there, one behind the other, or a new hand, where there are none."""
        hands = [name for name in sorted(books) if self._place_of(name) == place]
        if hands == []:
            hands.append(self._spare.pop())
        book = self._book_at_place(place, books[min(books)])
        for hand in hands:
            self._books[hand] = list(book)
        self._roads.extend(list(zip(hands, hands[1:])))
        self._heads[place] = hands[0]

    def _place_of(self, name):
        """Tell the place at which a name stands."""
        return tuple([0 if name in names else 1 for names, _ in self._partings])

    def _book_at_place(self, place, book):
        """Tell the book of a place, by the book of the least name, which chose all first lists."""
        turned = {pair: True for k, side in enumerate(place) if side == 1 for pair in self._turned[k]}
        many = {word: 0 for word in book}
        for a, b in combinations(book, 2):
            # Of each two words the one that is behind is counted: so each word has the number of those ahead of it.
            many[a if (a, b) in turned else b] += 1
        return [word for _, word in sorted([(many[word], word) for word in book])]

    def _home_of(self, word):
        """Tell a place at which the mouth of a word can be, or from which it is on a way to the next place."""
        for k, pairs in enumerate(self._turned):
            if is_between(word, pairs):
                return self._ends_of(k)[0]
        return [place for place in self._places if self._can_be_home(place, word)][0]

    def _can_be_home(self, place, word):
        """Tell whether a word is ahead at a place of all words with which it is turned anywhere."""
        return not any([word == pair[1 - side] for side, pairs in zip(place, self._turned) for pair in pairs])

    def _ends_of(self, k):
        """Tell the two places that have chosen otherwise of the parting of this number alone."""
        ways = [(place, place[:k] + (1,) + place[k + 1:]) for place in self._places if place[k] == 0]
        return [(one, other) for one, other in ways if other in self._heads][0]

    def _lead_way(self, k):
        """Lead the way between the two sides of a parting, with the mouths and books on it."""
        near, far = self._ends_of(k)
        book = self._books[self._heads[near]]
        other = self._books[self._heads[far]]
        ranks = ranks_of(book, other)
        roads = max(ranks.values()) - 1
        new = [self._spare.pop() for _ in range(roads - 1)]
        way = [self._heads[near]] + new + [self._heads[far]]
        numbers = {}
        for word in book:
            if is_between(word, self._turned[k]):
                numbers[word] = ranks[word] - 1
                self._mouths[word] = way[numbers[word]]
            else:
                numbers[word] = roads if self._homes[word][k] == 1 else 0
        for spot in range(1, roads):
            self._books[way[spot]] = book_at(book, other, roads, numbers, spot)
        self._roads.extend(list(zip(way, way[1:])))


def is_between(word, pairs):
    """Tell whether a word is the first of some of the pairs and the second of some."""
    return any([word == a for a, _ in pairs]) and any([word == b for _, b in pairs])


def places_in_numbers(partings):
    """Tell the places of the tree of partings as tuples of numbers."""
    rows = sorted([[parting.index(names) for parting, names in zip(partings, place)] for place in places_by(partings)])
    return [tuple(row) for row in rows]


def spare_names(books):
    """Tell names for other hands, more than there can be, the first to take last."""
    names = [one + other for one in LETTERS for other in LETTERS]
    return [name for name in reversed(names) if name not in books]
