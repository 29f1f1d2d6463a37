"""Worlds that give some books, and papers that none does (points 20 and 21)."""

from heardapart.errors import NoName, NoWord
from heardapart.growth import Growth, is_between
from heardapart.moments import is_moment, least_fault
from heardapart.papers import paper_of, shows_nowhere
from heardapart.partings import check_given, could_be_heard, longest_row, pairs_by_others, partings_by, places_by


def world_or_paper(books):
    """Tell a world that gives the books, with as few hands as there can be, or a paper that none does."""
    check_given(books)
    paper = paper_of(books)
    if paper is not None:
        return paper
    growth = Growth(books)
    return ("world", growth.told_moment())


def is_paper(books, thing):
    """Tell of anything whether it is a paper that the given books were heard nowhere."""
    check_given(books)
    return shows_nowhere(books, thing)


def is_world(books, thing):
    """Tell of anything whether it is the moment of a world that gives the books, however many hands it has."""
    check_given(books)
    if not is_moment(thing):
        return False
    _, mouths, written = thing
    words = sorted(books[min(books)])
    if sorted(mouths) != words or not all([sorted(book) == words for book in written.values()]):
        return False
    if not all([name in written and written[name] == books[name] for name in books]):
        return False
    return least_fault(thing) is None


def least_apart(books, one, other):
    """Tell how many roads are between two names at the least; None, where no web gives these books."""
    check_given(books)
    check_name_of(books, one)
    check_name_of(books, other)
    pairs = pairs_by_others(books)
    if not could_be_heard(books, partings_by(books, pairs)):
        return None
    if one == other:
        return 0
    roads = [longest_row(pairs[others]) - 1 for others in pairs if (one in others) != (other in others)]
    return max(1, sum(roads))


def mouths_of(books, word):
    """Tell at which places, or between the sides of which parting, a word's mouth can be; None, where no web is."""
    check_given(books)
    check_word_of(books, word)
    pairs = pairs_by_others(books)
    partings = partings_by(books, pairs)
    if not could_be_heard(books, partings):
        return None
    for one, other in partings:
        if is_between(word, pairs[tuple(other)]):
            return ([], (one, other))
    chosen = lists_ahead(word, partings, pairs)
    places = [place for place in places_by(partings) if all([names in place for names in chosen])]
    return (sorted([[list(names) for names in place] for place in places]), None)


def check_name_of(books, thing):
    """Refuse what is none of the given names."""
    # What is no text may fail where it is looked up.
    if type(thing) is not str or thing not in books:
        raise NoName("this is none of the given names")


def check_word_of(books, thing):
    """Refuse what is no word of the given books."""
    if type(thing) is not str or thing not in books[min(books)]:
        raise NoWord("this is no word of the given books")


def lists_ahead(word, partings, pairs):
    """Tell the lists in whose books a word stands ahead of the words with which their partings turn it."""
    told = []
    for one, other in partings:
        for a, b in pairs[tuple(other)]:
            if word == a:
                told.append(one)
            if word == b:
                told.append(other)
    return told
