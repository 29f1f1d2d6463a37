"""Two books of like words: turned pairs, lots and numberings (points 7 to 10)."""

from math import comb

from heardapart.errors import NoBook, NoNumber, NoNumbering, NoSpot, TooMany, Unlike
from heardapart.webs import are_unlike_names

MOST_NUMBERED = 12


def is_book(thing):
    """Tell of anything whether it is a book."""
    return are_unlike_names(thing)


def turned_pairs(book, other):
    """Tell all turned pairs of words, by the places of both in the first book."""
    check_books(book, other)
    return pairs_turned(book, other)


def longest_turned(book, other):
    """Tell a turned row with most words."""
    check_books(book, other)
    ranks = ranks_of(book, other)
    row = []
    wanted = max(ranks.values(), default=0)
    # Backwards: of one rank, the last word ahead stands furthest behind in the other book, so it is turned if one is.
    for word in reversed(book):
        if ranks[word] == wanted:
            row.append(word)
            wanted -= 1
    return row[::-1]


def fewest_lots(book, other):
    """Tell the fewest lots: the k-th of the words that end a turned row of k words, and no longer one."""
    check_books(book, other)
    ranks = ranks_of(book, other)
    lots = [[] for _ in range(max(ranks.values(), default=0))]
    for word in book:
        lots[ranks[word] - 1].append(word)
    return lots


def roads_between(book, other):
    """Tell how many roads there must be between two hands with these books."""
    check_books(book, other)
    ranks = ranks_of(book, other)
    return max(ranks.values(), default=1) - 1


def is_turned_row(book, other, thing):
    """Tell of anything whether it is a turned row of the two books."""
    check_books(book, other)
    ones = places_of(book)
    others = places_of(other)
    if not are_words_of(ones, thing):
        return False
    # Neighbours are enough: what is turned with a word that is turned with a third is turned with that one.
    return all([ones[a] < ones[b] and others[a] > others[b] for a, b in zip(thing, thing[1:])])


def is_lots(book, other, thing):
    """Tell of anything whether it is a list of lots of the two books."""
    check_books(book, other)
    # No lot is empty, so there are no more of them than words; a longer list is not gone through.
    if type(thing) is not list or len(thing) > len(book):
        return False
    ones = places_of(book)
    others = places_of(other)
    if not all(is_lot(ones, others, lot) for lot in thing):
        return False
    return sorted([word for lot in thing for word in lot]) == sorted(book)


def how_many_numberings(book, other, roads):
    """Tell how many numberings of the two books by so many roads there are."""
    check_books(book, other)
    check_roads(roads)
    if len(book) > MOST_NUMBERED:
        raise TooMany("there are more than twelve words")
    # Each numbering chooses the numbers that it uses, and then is one of those that use just so many.
    ways = ways_by_numbers(pairs_turned(book, other), places_of(book))
    return sum([many * comb(roads + 1, used) for used, many in enumerate(ways)])


def is_numbering(book, other, roads, thing):
    """Tell of anything whether it is a numbering of the two books by so many roads."""
    check_books(book, other)
    check_roads(roads)
    return numbers_all(book, other, roads, thing)


def book_at(book, other, roads, numbering, place):
    """Tell the book at a place of the line, by a numbering."""
    check_books(book, other)
    check_roads(roads)
    if not numbers_all(book, other, roads, numbering):
        raise NoNumbering("this is no numbering of the two books")
    if not is_spot(place, roads):
        raise NoSpot("this is no place from 0 to the roads")
    rows = low_rows(book, other, numbering, place) + high_rows(book, numbering, place)
    return [row[2] for row in sorted(rows)]


def is_whole(thing, least):
    """Tell of anything whether it is a whole number from the least on."""
    return type(thing) is int and thing >= least


def is_spot(thing, roads):
    """Tell of anything whether it is a whole number from 0 to the roads."""
    return is_whole(thing, 0) and thing <= roads


def check_books(book, other):
    """Refuse what is no book, and two books that are not of like words."""
    if not is_book(book):
        raise NoBook("the first is no book")
    if not is_book(other):
        raise NoBook("the other is no book")
    if sorted(book) != sorted(other):
        raise Unlike("one book has a word that the other has not")


def check_roads(thing):
    """Refuse what is no number of roads."""
    if not is_whole(thing, 0):
        raise NoNumber("the roads are no whole number from 0 on")


def places_of(book):
    """Tell each word's place in the book: a dict from words to numbers."""
    return {word: place for place, word in enumerate(book)}


def are_words_of(places, thing):
    """Tell of anything whether it is a list of words that have places, alike ones or not."""
    # What is no text may fail where it is looked up.
    return type(thing) is list and all(type(word) is str and word in places for word in thing)


def pairs_turned(book, other):
    """Tell the turned pairs of two books that are known to be of like words."""
    places = places_of(other)
    return [(a, b) for k, a in enumerate(book) for b in book[k + 1:] if places[a] > places[b]]


def ranks_of(book, other):
    """Tell for each word how many words the longest turned row has that ends with it."""
    places = places_of(other)
    ranks = {}
    # The k-th is the greatest place, in the other book, of a last word of all turned rows of k words so far. In a row
    # the places fall, and a row less its last word is one, too: so these fall, as well.
    lasts = []
    for word in book:
        many = how_many_above(lasts, places[word])
        lasts[many:many + 1] = [places[word]]
        ranks[word] = many + 1
    return ranks


def how_many_above(falling, least):
    """Tell how many of some numbers, the greatest ahead, are greater than the least."""
    low = 0
    high = len(falling)
    while low < high:
        middle = (low + high) // 2
        if falling[middle] > least:
            low = middle + 1
        else:
            high = middle
    return low


def is_lot(ones, others, thing):
    """Tell of anything whether it is a lot, by the words' places in both books."""
    if not are_words_of(ones, thing) or thing == []:
        return False
    spots = sorted([(ones[word], others[word]) for word in thing])
    # Places in the other book that grow, too: no word twice, and no two turned.
    return all([a[1] < b[1] for a, b in zip(spots, spots[1:])])


def numbers_all(book, other, roads, thing):
    """Tell of anything whether it is a numbering of two books that are known to be of like words."""
    if type(thing) is not dict or len(thing) != len(book):
        return False
    # Before any key is looked up, for a key that is no text may fail there.
    if not all(type(word) is str for word in thing):
        return False
    if not all(word in thing and is_spot(thing[word], roads) for word in book):
        return False
    return all([thing[a] < thing[b] for a, b in pairs_turned(book, other)])


def low_rows(book, other, numbering, place):
    """Tell where the low words stand: tuples that sort among those of the high words."""
    places = places_of(book)
    rows = []
    furthest = 0
    for word in other:
        if numbering[word] <= place:
            # A low word is behind each high one that a low word ahead of it is behind.
            furthest = max(furthest, places[word])
            rows.append((furthest, len(rows), word))
    return rows


def high_rows(book, numbering, place):
    """Tell where the high words stand: by their places in the first book."""
    return [(k, 0, word) for k, word in enumerate(book) if numbering[word] > place]


def ways_by_numbers(pairs, places):
    """Tell, in the k-th place, how many numberings there are by the first k numbers, each of them used."""
    above = [0 for _ in places]
    for a, b in pairs:
        above[places[a]] |= 1 << places[b]
    # Sets of words are written as bits; by no number only the set without words is numbered.
    counts = [0 for _ in range(1 << len(places))]
    counts[0] = 1
    ways = [counts[-1]]
    for _ in places:
        counts = with_one_number_more(counts, above)
        ways.append(counts[-1])
    return ways


def with_one_number_more(counts, above):
    """From how many ways there are to number each set of words by some numbers, tell how many by one more."""
    told = list(counts)
    # The new, greatest number comes to the words one by one, from the last of the first book:
    # so all that need a greater number than a word are in the set already, if they are to be in it.
    for k in reversed(range(len(above))):
        for words in range(len(counts)):
            if (words >> k) & 1 == 1 and words & above[k] == 0:
                told[words] += told[words - (1 << k)]
    # Less those in which no word has the new number, for each is to be used.
    return [told[words] - counts[words] for words in range(len(counts))]
