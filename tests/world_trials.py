"""What the tests of worlds and papers hold the program against: the words of points 20 and 21, and all small webs."""

from itertools import combinations, permutations, product

from tests.moment_trials import fault_by_words, sides_by_trial
from tests.parting_trials import all_webs, longest_by_trial, pairs_by_trial, partings_by_trial, places_by_trial, \
    road_lets, stands_ahead
from tests.trials import ways_by_trial


def is_world_by_words(books, moment):
    """Whether a moment is a world of the given books, as the words of the document tell it."""
    (hands, _), mouths, whole = moment
    words = set(books[min(books)])
    return set(mouths) == words and all(set(whole[hand]) == words for hand in hands) \
        and set(books) <= set(hands) and all(whole[name] == books[name] for name in books) \
        and fault_by_words(moment, sides_by_trial(moment[0])) is None


def corners_by_words(books, pair, other, names):
    orders = [(stands_ahead(books[name], *pair), stands_ahead(books[name], *other)) for name in names]
    return sorted(orders) == [(False, False), (False, True), (True, False), (True, True)]


def row_by_words(book, *words):
    """Whether all words stand in a book, one behind the other."""
    return all(word in book for word in words) and all(stands_ahead(book, a, b) for a, b in zip(words, words[1:]))


def round_by_words(books, words, names):
    (a, b, c), (one, two, three) = words, names
    rows = ((one, (a, b, c)), (two, (b, c, a)), (three, (c, a, b)))
    return all(row_by_words(books[name], *row) for name, row in rows)


def behind_by_words(books, words, names):
    (w, u, v), (one, two, three) = words, names
    return stands_ahead(books[one], w, u) and stands_ahead(books[one], v, w) \
        and stands_ahead(books[two], w, v) and stands_ahead(books[two], u, w) \
        and stands_ahead(books[three], u, w) and stands_ahead(books[three], v, w)


def near_papers(books):
    """All things in the form of papers of these books, with whether they are such."""
    words, names = sorted(books[min(books)]), sorted(books)
    pairs = list(permutations(words, 2))
    for pair, other, four in product(pairs, pairs, product(names, repeat=4)):
        yield ("corners", pair, other, four), corners_by_words(books, pair, other, four)
    for three, others in product(permutations(words, 3), product(names, repeat=3)):
        yield ("round", three, others), round_by_words(books, three, others)
        yield ("behind", three, others), behind_by_words(books, three, others)


def all_worlds(books, many):
    """All worlds of so many hands that give the books: moments."""
    words = books[min(books)]
    new = ["new" + "abcdefgh"[k] for k in range(many - len(books))]
    for web in all_webs(sorted(books) + new):
        sides = [(a, b, [hand for hand in web[0] if b not in ways_by_trial(web, hand, a)[0]]) for a, b in web[1]]
        for chosen in product(web[0], repeat=len(words)):
            mouths = dict(zip(words, chosen))
            roads = [(a, b, [word for word in words if mouths[word] in side]) for a, b, side in sides]
            for whole in whole_books(books, new, words, roads):
                yield web, mouths, whole


def whole_books(books, new, words, roads):
    """All books of all hands, the given ones and those of the new hands, that the roads let."""
    known = [row for row in roads if row[0] in books and row[1] in books]
    if not all(road_lets(books, row, words) for row in known):
        return
    for told in product([list(book) for book in permutations(words)], repeat=len(new)):
        whole = {**books, **dict(zip(new, told))}
        if all(road_lets(whole, row, words) for row in roads):
            yield whole


def place_of_book(books, book):
    """The place at which a whole book stands: a list of the chosen lists, or the one parting whose way it is on."""
    place = []
    for parting in partings_by_trial(books):
        pairs = pairs_by_trial(books, parting)
        ahead = [stands_ahead(book, a, b) for a, b in pairs]
        if all(ahead):
            place.append(parting[0])
        elif not any(ahead):
            place.append(parting[1])
        else:
            return parting
    return place


def mouths_by_trial(books, word, worlds):
    """At which places the mouth of a word is in some worlds, in order; else the partings on whose ways it is."""
    found = [place_of_book(books, whole[mouths[word]]) for _, mouths, whole in worlds]
    places = sorted({repr(place): place for place in found if isinstance(place, list)}.values())
    return places if places else [place for k, place in enumerate(found) if place not in found[:k]]


def mouths_by_words(books, word):
    """The answer of mouths_of of books that could be heard, as the words of the document tell it."""
    chosen = []
    for parting in partings_by_trial(books):
        pairs = pairs_by_trial(books, parting)
        ones, others = [b for a, b in pairs if a == word], [a for a, b in pairs if b == word]
        if ones and others:
            return [], parting
        chosen += [parting[0]] * bool(ones) + [parting[1]] * bool(others)
    places = places_by_trial(partings_by_trial(books))
    return [place for place in places if all(names in place for names in chosen)], None


def apart_by_trial(one, other, worlds):
    return min(len(ways_by_trial(web, one, other)[0]) - 1 for web, _, _ in worlds)


def apart_by_words(books, one, other):
    """The answer of least_apart of books that could be heard, as the words of the document tell it."""
    if one == other:
        return 0
    apart = [parting for parting in partings_by_trial(books) if (one in parting[0]) != (other in parting[0])]
    return max(1, sum(longest_by_trial(books, parting) - 1 for parting in apart))


def bent(rnd, books):
    """The same books, with two words of some of them turned about."""
    told = {name: list(book) for name, book in books.items()}
    for name in rnd.sample(sorted(told), min(len(told), rnd.randrange(1, 4))):
        book = told[name]
        if len(book) > 1:
            k = rnd.randrange(len(book) - 1)
            book[k:k + 2] = [book[k + 1], book[k]]
    return told


def is_turned_about(books):
    """The same books, each read from its end."""
    return {name: book[::-1] for name, book in books.items()}


def otherwise(moment):
    """Moments that are near to a moment, one thing otherwise, with none of which it is alike."""
    (hands, roads), mouths, books = moment
    for hand in hands:
        book = books[hand]
        for k in range(len(book)):
            yield (hands, roads), mouths, {**books, hand: book[:k] + book[k + 1:]}
        for a, b in combinations(range(len(book)), 2):
            turned = list(book)
            turned[a], turned[b] = turned[b], turned[a]
            yield (hands, roads), mouths, {**books, hand: turned}
        yield (hands, roads), {**mouths, "newword": hand}, books
        yield (hands, roads), {**mouths, "newword": hand}, {one: books[one] + ["newword"] for one in books}
    for word in mouths:
        yield (hands, roads), {one: mouths[one] for one in mouths if one != word}, books
        fewer = {hand: [one for one in books[hand] if one != word] for hand in hands}
        yield (hands, roads), {one: mouths[one] for one in mouths if one != word}, fewer
        for hand in hands:
            if hand != mouths[word]:
                yield (hands, roads), {**mouths, word: hand}, books
