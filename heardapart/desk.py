"""The desk: a net that is led and asked by rows of words (points 24 and 25)."""

from heardapart.books import places_of, roads_between
from heardapart.errors import NoNet, NoRow, Unfinished
from heardapart.nets import Net
from heardapart.partings import MOST_NAMES, fewest_hands
from heardapart.webs import are_unlike_names, is_name, way_between


def do_join(net, names):
    """Let a new hand stand beside a hand."""
    net.join(names[0], names[1])
    return "ok"


def do_shout(net, names):
    """Let a hand shout a word."""
    net.shout(names[0], names[1])
    return "ok"


def do_step(net, names):
    """Let the other hand hear what lies from a hand to it."""
    net.step(names[0], names[1])
    return "ok"


def do_rest(net, _):
    """Step until nothing lies; tell how many steps."""
    return str(net.rest())


def tell_lie(net, _):
    """Tell how many letters lie."""
    return str(net.lying())


def tell_hands(net, _):
    """Tell all hands."""
    web = net.web()
    return row_of(web[0])


def tell_words(net, _):
    """Tell all words that were shouted."""
    return row_of(net.words())


def tell_roads(net, _):
    """Tell all roads."""
    web = net.web()
    return row_of([f"{one}-{other}" for one, other in web[1]])


def tell_book(net, names):
    """Tell a hand's book."""
    return row_of(net.book(names[0]))


def tell_lane(net, names):
    """Tell what lies from a hand to another one."""
    return row_of(net.lane(names[0], names[1]))


def tell_next(net, names):
    """Tell the words that a hand can hear next."""
    return row_of(net.next_words(names[0]))


def tell_mouth(net, names):
    """Tell the hand that shouted a word."""
    return net.mouth(names[0])


def tell_settled(net, names):
    """Tell which of two words stands ahead in a hand's book, or will, or that this is open."""
    word = net.settled(names[0], names[1], names[2])
    return "open" if word is None else word


def tell_few(net, names):
    """Tell by how few hearings a hand can have a word."""
    return str(net.hearings_to(names[0], names[1]))


def tell_apart(net, names):
    """Tell how many roads are between two hands, and how many must be by the words that both have."""
    one, other = names
    book = net.book(one)
    other_book = net.book(other)
    roads = len(way_between(net.web(), one, other)) - 1
    least = roads_between(words_shared(book, other_book), words_shared(other_book, book))
    return f"{roads} {least}"


def tell_guess(net, names):
    """Tell how few hands a web can have that gives the books of some hands."""
    books = {name: net.book(name) for name in names}
    many = len(net.words())
    if any([len(book) < many for book in books.values()]):
        raise Unfinished("a book has not all words yet")
    return str(fewest_hands(books))


ANSWERS = {"join": do_join, "shout": do_shout, "step": do_step, "rest": do_rest, "lie": tell_lie, "hands": tell_hands,
           "words": tell_words, "roads": tell_roads, "book": tell_book, "lane": tell_lane, "next": tell_next,
           "mouth": tell_mouth, "settled": tell_settled, "few": tell_few, "apart": tell_apart, "guess": tell_guess}
# How many names stand in each row; in that of guess there are one to twelve.
MANY_NAMES = {"net": 1, "join": 2, "shout": 2, "step": 2, "rest": 0, "lie": 0, "hands": 0, "words": 0, "roads": 0,
              "book": 1, "lane": 2, "next": 1, "mouth": 1, "settled": 3, "few": 2, "apart": 2}


class Desk:
    """A net, at first none, that is led and asked by rows of words."""

    def __init__(self):
        self._net = None

    def say(self, row):
        """Do what a row of words says, and tell what it asks for, or ok."""
        words = words_in(row)
        kind = words[0]
        names = words[1:]
        if kind == "net":
            self._net = Net(names[0])
            return "ok"
        if self._net is None:
            raise NoNet("there is no net yet")
        answer = ANSWERS[kind]
        return answer(self._net, names)


def words_in(row):
    """Tell the words of a row that the desk knows; refuse anything else."""
    if type(row) is not str:
        raise NoRow("this is no text")
    words = row.split(" ")
    if not is_row(words[0], words[1:]):
        raise NoRow("there is no such row of words")
    return words


def is_row(kind, names):
    """Tell whether the words behind the first one are as many names as there are in such a row."""
    if not all(is_name(name) for name in names):
        return False
    if kind == "guess":
        return 1 <= len(names) <= MOST_NAMES and are_unlike_names(names)
    return MANY_NAMES.get(kind) == len(names)


def row_of(words):
    """Tell words with blanks between, or that there are none."""
    return " ".join(words) if words else "none"


def words_shared(book, other):
    """Tell the words of a book, in its order, that another one has, too."""
    places = places_of(other)
    return [word for word in book if word in places]
