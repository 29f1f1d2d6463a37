"""Webs, books, moments and histories as texts (point 23)."""

from heardapart.books import is_book
from heardapart.errors import NoText
from heardapart.moments import is_moment
from heardapart.webs import is_name, is_web

# How many names there are in each kind of deed.
DEEDS = {"shout": 2, "hear": 3}


def show_web(web):
    """Write a web."""
    if not is_web(web):
        raise NoText("this is no web")
    return "\n".join(rows_of_web(web))


def read_web(text):
    """Read what show_web writes."""
    rows = rows_in(text)
    web = web_in(rows)
    # What is read of other rows than are written of it has no writing: there is just one.
    if not is_web(web) or rows_of_web(web) != rows:
        raise NoText("this writes no web")
    return web


def show_book(book):
    """Write a book."""
    if not is_book(book):
        raise NoText("this is no book")
    return row_of_book(book)


def read_book(text):
    """Read what show_book writes."""
    if type(text) is not str:
        raise NoText("this is no text")
    book = book_in(text)
    if not is_book(book):
        raise NoText("this writes no book")
    return book


def show_moment(moment):
    """Write a moment."""
    if not is_moment(moment):
        raise NoText("this is no moment")
    return "\n".join(rows_of_moment(moment))


def read_moment(text):
    """Read what show_moment writes."""
    rows = rows_in(text)
    moment = moment_in(rows)
    if not is_moment(moment) or rows_of_moment(moment) != rows:
        raise NoText("this writes no moment")
    return moment


def show_history(history):
    """Write a history."""
    if type(history) is not list or not all(is_deed(deed) for deed in history):
        raise NoText("this is no list of deeds")
    return "\n".join([" ".join(deed) for deed in history])


def read_history(text):
    """Read what show_history writes."""
    if type(text) is str and text == "":
        return []
    history = [tuple(row.split(" ")) for row in rows_in(text)]
    if not all(is_deed(deed) for deed in history):
        raise NoText("this writes no history")
    return history


def rows_in(text):
    """Tell the rows of a text; refuse what is none."""
    if type(text) is not str:
        raise NoText("this is no text")
    return text.split("\n")


def rows_of_web(web):
    """Tell the rows that write a web."""
    hands, roads = web
    return [" ".join(sorted(hands))] + [f"{one}-{other}" for one, other in sorted(roads)]


def web_in(rows):
    """Tell what rows would write if they wrote a web."""
    return (rows[0].split(" "), [tuple(row.split("-")) for row in rows[1:]])


def row_of_book(book):
    """Tell the row that writes a book."""
    return " ".join(book) if book else "-"


def book_in(row):
    """Tell what a row would write if it wrote a book."""
    return [] if row == "-" else row.split(" ")


def rows_of_moment(moment):
    """Tell the rows that write a moment."""
    web, mouths, books = moment
    written = [f"{hand}: {row_of_book(books[hand])}" for hand in sorted(books)]
    return rows_of_web(web) + written + [f"{word}@{mouths[word]}" for word in sorted(mouths)]


def moment_in(rows):
    """Tell what rows would write if they wrote a moment."""
    # There are as many rows of a web, one of hands and the roads, as hands; and as many of their books.
    many = len(rows[0].split(" "))
    books = {}
    for row in rows[many:2 * many]:
        hand, _, book = row.partition(": ")
        books[hand] = book_in(book)
    mouths = {}
    for row in rows[2 * many:]:
        word, _, hand = row.partition("@")
        mouths[word] = hand
    return (web_in(rows[:many]), mouths, books)


def is_deed(thing):
    """Tell of anything whether it is a deed, of any names."""
    if type(thing) is not tuple or thing == () or type(thing[0]) is not str:
        return False
    return DEEDS.get(thing[0]) == len(thing) - 1 and all(is_name(name) for name in thing[1:])
