"""Partings of given books: their pairs, the tree, and how few hands a web can have (points 17 to 19)."""

from itertools import combinations

from heardapart.books import is_book, places_of
from heardapart.errors import Cross, NoBooks, NoParting
from heardapart.threes import three_of
from heardapart.webs import is_name, is_pair

MOST_NAMES = 12
MOST_WORDS = 20


def partings_of(books):
    """Tell all partings of the given books, in order."""
    check_given(books)
    return partings_by(books, pairs_by_others(books))


def pairs_of(books, parting):
    """Tell the pairs of words that a parting turns, by their places in the book of the least name."""
    check_given(books)
    pairs = pairs_by_others(books)
    if not are_two_lists(parting) or parting not in partings_by(books, pairs):
        raise NoParting("this is no parting of the given books")
    return pairs[tuple(parting[1])]


def tree_places(books):
    """Tell the places of the tree in which the given books stand, in order."""
    check_given(books)
    partings = partings_by(books, pairs_by_others(books))
    if some_cross(partings):
        raise Cross("two partings cross")
    return sorted([[list(names) for names in place] for place in places_by(partings)])


def fewest_hands(books):
    """Tell how few hands a web can have that gives these books; None, where no web does."""
    check_given(books)
    pairs = pairs_by_others(books)
    partings = partings_by(books, pairs)
    if not could_be_heard(books, partings):
        return None
    bare = [place for place in places_by(partings) if not has_name(place, books)]
    between = [longest_row(pairs[others]) - 2 for others in pairs]
    return len(books) + len(bare) + sum(between)


def are_given(thing):
    """Tell of anything whether it is a dict of given books."""
    if type(thing) is not dict or not 1 <= len(thing) <= MOST_NAMES:
        return False
    if not all(is_name(name) for name in thing):
        return False
    if not all(is_book(book) and len(book) <= MOST_WORDS for book in thing.values()):
        return False
    words = sorted(thing[min(thing)])
    return all(sorted(book) == words for book in thing.values())


def check_given(thing):
    """Refuse what are no given books."""
    if not are_given(thing):
        raise NoBooks("these are no given books")


def pairs_by_others(books):
    """Tell the turned pairs of each parting, by its second list: a dict from tuples of names to lists."""
    names = sorted(books)
    places = {name: places_of(books[name]) for name in names}
    pairs = {}
    for a, b in combinations(books[names[0]], 2):
        others = tuple([name for name in names if places[name][a] > places[name][b]])
        if others:
            pairs[others] = pairs.get(others, []) + [(a, b)]
    return pairs


def partings_by(books, pairs):
    """Tell all partings, in order, by the second lists for which there are pairs."""
    names = sorted(books)
    return sorted([([name for name in names if name not in others], list(others)) for others in pairs])


def are_two_lists(thing):
    """Tell of anything whether it is a tuple of two lists of texts."""
    return is_pair(thing) and all(is_list_of_texts(part) for part in thing)


def is_list_of_texts(thing):
    """Tell of anything whether it is a list of texts."""
    return type(thing) is list and all(type(part) is str for part in thing)


def share_name(names, others):
    """Tell whether two lists have a name in common."""
    return any(name in others for name in names)


def could_be_heard(books, partings):
    """Tell whether the given books, with these partings, could have been heard."""
    return not some_cross(partings) and three_of(books) is None


def do_cross(parting, other):
    """Tell whether two partings cross."""
    return all([share_name(names, others) for names in parting for others in other])


def some_cross(partings):
    """Tell whether any two of the partings cross."""
    return any([do_cross(parting, other) for parting, other in combinations(partings, 2)])


def places_by(partings):
    """Tell the places of the tree of partings that do not cross, each the list of its chosen lists."""
    places = [[]]
    # Of partings that do not cross the first ones make a tree, too: so there are never more places than told.
    for parting in partings:
        places = [place + [names] for place in places for names in parting if fits(place, names)]
    return places


def fits(place, names):
    """Tell whether a list has a name in common with each list that is chosen already."""
    return all(share_name(names, chosen) for chosen in place)


def has_name(place, books):
    """Tell whether a name stands at a place."""
    return any([all([name in names for names in place]) for name in books])


def longest_row(pairs):
    """Tell how many words the longest row has any two of whose words are among a parting's pairs."""
    ranks = {}
    # The pairs go by the places of their first words, so all rows that end with a word are known ahead of its own
    # pairs; and what is turned with a word that is turned with a third by the same parting, is turned with that one.
    for a, b in pairs:
        ranks[b] = max(ranks.get(b, 1), ranks.get(a, 1) + 1)
    return max(ranks.values())
