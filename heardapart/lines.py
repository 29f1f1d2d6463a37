"""Lines whose words are shouted at both ends alone: their rests, and the heaps that tell them (point 22)."""

from heardapart.books import is_book, is_spot, is_whole, places_of
from heardapart.errors import Common, NoBook, NoHeap, NoLine, NoNumber, TooMany

MOST_WORDS = 100


def heap_of(ones, others, rest):
    """Tell the heap of a rest of a line, of words shouted at its first hand and others at its last one."""
    check_sorts(ones, others)
    if not is_rest(ones, others, rest):
        raise NoLine("this is no rest of the line")
    counts = [counts_in(book, places_of(ones)) for book in rest]
    return [[rows_above(counts, k, j) for j in range(len(others))] for k in range(len(ones))]


def rest_of(ones, others, hands, heap):
    """Tell the rest of a line of so many hands by its heap."""
    check_sorts(ones, others)
    check_hands(hands)
    if not is_heap(len(ones), len(others), hands, heap):
        raise NoHeap("this is no heap of the line")
    # The nearer to the last hand, the more of its words are ahead: so the last hands are those that a number counts.
    return [book_by(ones, others, counts_by(heap, hands - place)) for place in range(hands)]


def how_many_rests(ones, others, hands):
    """Tell how many rests a line of so many hands has, of so many words of the one sort and of the other."""
    if not is_whole(ones, 0) or not is_whole(others, 0):
        raise NoNumber("the words are no whole number from 0 on")
    check_hands(hands)
    if ones > MOST_WORDS or others > MOST_WORDS:
        raise TooMany("there are more than a hundred words of a sort")
    told = 1
    parts = 1
    for i in range(1, ones + 1):
        for j in range(1, others + 1):
            told = told * (i + j + hands - 1)
            parts = parts * (i + j - 1)
    return told // parts


def check_sorts(ones, others):
    """Refuse what is no book, and two books with a word in common."""
    if not is_book(ones):
        raise NoBook("the words of the first hand are no book")
    if not is_book(others):
        raise NoBook("the words of the last hand are no book")
    if len(set(ones + others)) < len(ones) + len(others):
        raise Common("a word is in both books")


def check_hands(thing):
    """Refuse what is no number of hands."""
    if not is_whole(thing, 1):
        raise NoNumber("the hands are no whole number from 1 on")


def is_rest(ones, others, thing):
    """Tell of anything whether it is a rest of a line with these words."""
    if type(thing) is not list or thing == []:
        return False
    if not all(is_mixed(ones, others, book) for book in thing):
        return False
    counts = [counts_in(book, places_of(ones)) for book in thing]
    # On each road the word of the last hand that is ahead at the one stays ahead at the next one.
    return all([are_steps(row, later) for row, later in zip(counts, counts[1:])])


def is_mixed(ones, others, thing):
    """Tell of anything whether it is a book of both sorts of words, each in their order."""
    if type(thing) is not list or len(thing) != len(ones) + len(others):
        return False
    if not all(type(word) is str for word in thing):
        return False
    firsts = places_of(ones)
    lasts = places_of(others)
    # As many words as both sorts have: so where both are found in their orders there is no other one.
    return [word for word in thing if word in firsts] == ones and [word for word in thing if word in lasts] == others


def counts_in(book, firsts):
    """Tell for each word of the first hand, a dict's keys, how many of the last one's stand ahead of it."""
    counts = []
    for place, word in enumerate(book):
        if word in firsts:
            counts.append(place - len(counts))
    return counts


def are_steps(row, later):
    """Tell whether no number of a row is greater than that at its place in the later one."""
    return all([one <= other for one, other in zip(row, later)])


def rows_above(counts, k, j):
    """Tell how many rows of counts have in the k-th place a greater number than j."""
    return len([row for row in counts if row[k] > j])


def is_heap(many, width, hands, thing):
    """Tell of anything whether it is a heap of so many lists of so many numbers, none greater than the hands."""
    if type(thing) is not list or len(thing) != many:
        return False
    if not all(is_heap_row(width, hands, row) for row in thing):
        return False
    return all([are_steps(row, later) for row, later in zip(thing, thing[1:])])


def is_heap_row(width, hands, thing):
    """Tell of anything whether it is a list of so many numbers from the hands to 0, none greater than that ahead."""
    if type(thing) is not list or len(thing) != width:
        return False
    if not all(is_spot(number, hands) for number in thing):
        return False
    return are_steps(thing[1:], thing)


def counts_by(heap, least):
    """Tell for each list of a heap how many of its numbers are no less than the least."""
    return [len([number for number in row if number >= least]) for row in heap]


def book_by(ones, others, counts):
    """Tell the book in which so many of the others stand ahead of each of the ones."""
    book = []
    ahead = 0
    for word, many in zip(ones, counts):
        book.extend(others[ahead:many])
        book.append(word)
        ahead = many
    return book + others[ahead:]
