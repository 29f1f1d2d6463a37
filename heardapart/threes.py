"""Three words that stand in some books so that these were heard nowhere (point 20)."""

from itertools import combinations, permutations


def three_of(books):
    """Tell a paper of three words and three names that the given books were heard nowhere, or None."""
    book = books[min(books)]
    for three in combinations(book, 3):
        paper = paper_by(names_by_orders(books, three), list(three))
        if paper is not None:
            return paper
    return None


def paper_by(names, three):
    """Tell a paper of three words, by a dict from the orders in which they stand to names, or None."""
    for words in permutations(three):
        for kind, orders in barring_orders(words):
            if all([order in names for order in orders]):
                return (kind, words, tuple([names[order] for order in orders]))
    return None


def barring_orders(words):
    """Tell which three orders of three words no world has: tuples of a paper's first word and of these orders."""
    a, b, c = words
    return [("round", ((a, b, c), (b, c, a), (c, a, b))),
            ("behind", ((c, a, b), (b, a, c), (b, c, a))),
            ("behind", ((c, a, b), (b, a, c), (c, b, a)))]


def names_by_orders(books, words):
    """Tell the orders in which some words stand in the given books: a dict from them to the least names with them."""
    # Backwards, so that of some names with one order the least is written last.
    return {order_in(books[name], words): name for name in sorted(books, reverse=True)}


def order_in(book, words):
    """Tell the order in which some words stand in a book: a tuple."""
    return tuple([word for word in book if word in words])
