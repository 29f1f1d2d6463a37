"""Moments: their faults, what lies in them, and histories that lead there (points 15 and 16)."""

from heardapart.books import is_book, places_of
from heardapart.errors import Faulty, NoMoment
from heardapart.webs import hands_ahead, is_name, is_web, neighbours_in


def is_moment(thing):
    """Tell of anything whether it is a moment."""
    if type(thing) is not tuple or len(thing) != 3:
        return False
    web, mouths, books = thing
    if not is_web(web):
        return False
    hands = {hand: True for hand in web[0]}
    return are_mouths(mouths, hands) and are_books(books, hands, mouths)


def fault_of(moment):
    """Tell the fault of the least lane that does not let the moment, or None."""
    check_moment(moment)
    return least_fault(moment)


def what_lies(moment):
    """Tell what lies on each lane on which something does: a dict from lanes to lists, each in order."""
    check_faultless(moment)
    web, mouths, books = moment
    senders = senders_of(web, mouths)
    told = {}
    for x, y in lanes_of(web):
        heard = places_of(books[y])
        letters = [word for word in books[x] if senders[word][y] == x and word not in heard]
        if letters:
            told[(x, y)] = sorted(letters)
    return told


def history_of(moment):
    """Tell a history by which the books of the moment come to be from empty ones."""
    check_faultless(moment)
    web, mouths, books = moment
    senders = senders_of(web, mouths)
    near = neighbours_in(web)
    written = {hand: {} for hand in books}
    history = []
    # In order, so that nothing hangs on the order in which the hands and roads of the web stand.
    waiting = sorted(books)
    while waiting:
        hand = waiting.pop()
        deeds = deeds_at(hand, books[hand], senders, written)
        history.extend(deeds)
        if deeds:
            # What the hand has written now the neighbours may have waited for.
            waiting.extend(sorted(near[hand]))
    return history


def comes_by(moment, thing):
    """Tell of anything whether it is a history by which the books of the moment come to be."""
    check_moment(moment)
    web, mouths, books = moment
    if type(thing) is not list or len(thing) != sum([len(book) for book in books.values()]):
        return False
    # Where a lane does not let the moment, nothing leads there.
    if least_fault(moment) is not None:
        return False
    senders = senders_of(web, mouths)
    written = {hand: {} for hand in books}
    for deed in thing:
        if not is_next_deed(deed, books, senders, written):
            return False
        hand, word = deed[-2:]
        written[hand][word] = True
    # As many deeds as words, each the next one of its book: so all books are whole.
    return True


def are_mouths(thing, hands):
    """Tell of anything whether it is a dict from words to some of the hands, a dict's keys."""
    if type(thing) is not dict or not all(is_name(word) for word in thing):
        return False
    return all(type(hand) is str and hand in hands for hand in thing.values())


def are_books(thing, hands, mouths):
    """Tell of anything whether it is a dict from each of the hands to a book of words with mouths."""
    if type(thing) is not dict or len(thing) != len(hands):
        return False
    # As many unlike ones as there are hands: so each hand is among them.
    if not all(type(hand) is str and hand in hands for hand in thing):
        return False
    return all(is_book(book) and has_mouths(book, mouths) for book in thing.values())


def has_mouths(book, mouths):
    """Tell whether all words of a book have a mouth."""
    return all(word in mouths for word in book)


def check_moment(thing):
    """Refuse what is no moment."""
    if not is_moment(thing):
        raise NoMoment("this is no moment")


def check_faultless(thing):
    """Refuse what is no moment, and a moment with a fault."""
    check_moment(thing)
    if least_fault(thing) is not None:
        raise Faulty("a lane does not let this moment")


def lanes_of(web):
    """Tell all lanes of a web, in order."""
    return sorted(web[1] + [(other, one) for one, other in web[1]])


def senders_of(web, mouths):
    """Tell for each word of which neighbour each hand hears it: dicts from hands, None for its mouth."""
    ways = {hand: hands_ahead(web, hand, None) for hand in mouths.values()}
    return {word: ways[mouths[word]] for word in mouths}


def least_fault(moment):
    """Tell the fault of the least lane that does not let a thing that is known to be a moment, or None."""
    web, mouths, books = moment
    senders = senders_of(web, mouths)
    for x, y in lanes_of(web):
        fault = fault_on(x, y, books, senders)
        if fault is not None:
            return fault
    return None


def fault_on(x, y, books, senders):
    """Tell the fault of a lane, or None."""
    sent = [word for word in books[x] if senders[word][y] == x]
    heard = [word for word in books[y] if senders[word][y] == x]
    for k, word in enumerate(heard):
        if sent[k:k + 1] != [word]:
            return (x, y, word, None)
    return crossing_on(x, y, books, heard)


def crossing_on(x, y, books, heard):
    """Tell the fault of a lane by which y heard x's words as they were sent: two words the wrong way about, or None."""
    places = places_of(books[x])
    mine = {word: True for word in heard}
    found = None
    # Backwards: the least place in x's book of those of y's words that stand further behind in y's book.
    least = len(places)
    for word in reversed(books[y]):
        if word in mine:
            if least < places[word]:
                found = word
        elif word in places:
            least = min(least, places[word])
    if found is None:
        return None
    behind = books[y][books[y].index(found) + 1:]
    others = [word for word in behind if word not in mine and word in places and places[word] < places[found]]
    return (x, y, found, others[0])


def can_come(hand, word, senders, written):
    """Tell whether a word's mouth can shout it, or a hand hear it, by what is written so far."""
    sender = senders[word][hand]
    return sender is None or word in written[sender]


def deed_of(hand, word, senders):
    """Tell the deed by which a word comes into a hand's book."""
    sender = senders[word][hand]
    return ("shout", hand, word) if sender is None else ("hear", sender, hand, word)


def deeds_at(hand, book, senders, written):
    """Write the next words of a hand's book as far as they can come now; tell the deeds."""
    deeds = []
    rest = book[len(written[hand]):]
    for word in rest:
        if not can_come(hand, word, senders, written):
            break
        written[hand][word] = True
        deeds.append(deed_of(hand, word, senders))
    return deeds


def is_next_deed(thing, books, senders, written):
    """Tell of anything whether it is a deed by which the next word of a book can come now."""
    if type(thing) is not tuple or len(thing) not in (3, 4) or not all(type(part) is str for part in thing):
        return False
    hand, word = thing[-2:]
    if hand not in books:
        return False
    many = len(written[hand])
    if books[hand][many:many + 1] != [word]:
        return False
    return thing == deed_of(hand, word, senders) and can_come(hand, word, senders, written)
