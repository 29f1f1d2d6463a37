"""Papers that given books were heard nowhere (point 20)."""

from itertools import combinations

from heardapart.books import places_of
from heardapart.partings import do_cross, pairs_by_others, partings_by
from heardapart.threes import barring_orders, order_in, three_of


def paper_of(books):
    """Tell a paper that the given books were heard nowhere, or None."""
    paper = corners_of(books)
    return three_of(books) if paper is None else paper


def shows_nowhere(books, thing):
    """Tell of anything whether it is a paper that the given books were heard nowhere."""
    if type(thing) is not tuple or len(thing) not in (3, 4) or type(thing[0]) is not str:
        return False
    if len(thing) == 4:
        return thing[0] == "corners" and are_corners(books, thing[1], thing[2], thing[3])
    kind, words, names = thing
    if not are_known(words, 3, places_of(books[min(books)])) or not are_known(names, 3, books):
        return False
    return (kind, tuple([order_in(books[name], words) for name in names])) in barring_orders(words)


def corners_of(books):
    """Tell a paper of the first two partings that cross, or None."""
    pairs = pairs_by_others(books)
    partings = partings_by(books, pairs)
    for parting, other in combinations(partings, 2):
        if do_cross(parting, other):
            names = [first_shared(one, two) for one in parting for two in other]
            return ("corners", pairs[tuple(parting[1])][0], pairs[tuple(other[1])][0], tuple(names))
    return None


def first_shared(names, others):
    """Tell the first name of a list that is in the other one, too."""
    return [name for name in names if name in others][0]


def are_known(thing, many, known):
    """Tell of anything whether it is a tuple of so many texts that are known, a dict's keys."""
    if type(thing) is not tuple or len(thing) != many:
        return False
    # What is no text may fail where it is looked up.
    return all(type(part) is str and part in known for part in thing)


def are_corners(books, pair, other, names):
    """Tell of anything whether two pairs of words stand in all four orders in the books of four names."""
    words = places_of(books[min(books)])
    if not are_known(pair, 2, words) or not are_known(other, 2, words) or not are_known(names, 4, books):
        return False
    # A word never stands ahead of itself: so one that is handed twice is in no more than two of these.
    corners = [(stands_ahead(books[name], pair), stands_ahead(books[name], other)) for name in names]
    return len(set(corners)) == 4


def stands_ahead(book, pair):
    """Tell whether the first word of a pair stands ahead of the other one."""
    return book.index(pair[0]) < book.index(pair[1])
