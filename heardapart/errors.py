"""What the program refuses: one class for each kind of refusal (point 3)."""


class ApartError(ValueError):
    """Any refusal of this program."""


class NoName(ApartError):
    """What should be a name, or one of the given names, is none."""


class NoWeb(ApartError):
    """What should be a web is none."""


class NoHand(ApartError):
    """What should be a hand of the web, or of the net, is none."""


class NoRoad(ApartError):
    """The two hands are no neighbours."""


class NoBook(ApartError):
    """What should be a book is none."""


class Unlike(ApartError):
    """The two books are not of like words."""


class NoNumber(ApartError):
    """What should be a whole number, from 0 or from 1 on, is none."""


class NoNumbering(ApartError):
    """What should be a numbering of the two books is none."""


class NoSpot(ApartError):
    """What should be a place on the line is none."""


class TooMany(ApartError):
    """There are too many words to count by."""


class Twice(ApartError):
    """The hand stands already, or the word was shouted ahead."""


class Empty(ApartError):
    """Nothing lies on the lane, or there is no road."""


class NoWord(ApartError):
    """What should be one of the words is none of them."""


class Alike(ApartError):
    """The two words are one."""


class NoMoment(ApartError):
    """What should be a moment is none."""


class Faulty(ApartError):
    """The moment has a fault."""


class NoBooks(ApartError):
    """What should be given books are none."""


class NoParting(ApartError):
    """What should be a parting of the given books is none."""


class Cross(ApartError):
    """Some partings of the given books cross."""


class Common(ApartError):
    """A word stands in both books of a line."""


class NoLine(ApartError):
    """What should be a rest of the line is none."""


class NoHeap(ApartError):
    """What should be a heap is none."""


class NoText(ApartError):
    """The text writes nothing, or the thing has no text."""


class NoRow(ApartError):
    """What should be a row of words that the desk knows is none."""


class NoNet(ApartError):
    """The desk has no net yet."""


class Unfinished(ApartError):
    """A book has not all words yet."""
