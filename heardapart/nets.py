"""Nets that live: hands that join, shout, hear and rest (points 11 to 14)."""

from heapq import heapify, heappop, heappush

from heardapart.errors import Alike, Empty, NoHand, NoName, NoWord, Twice
from heardapart.webs import is_name


class Net:
    """Hands and roads that grow, and letters that lie on the lanes."""

    def __init__(self, name):
        if not is_name(name):
            raise NoName("the first hand has no name")
        # Each hand with the one beside which it came to stand: the ways between hands go by these.
        self._beside = {name: None}
        self._near = {name: []}
        # A book is kept as a dict from its words to their places, which is in the book's order, too.
        self._books = {name: {}}
        self._mouths = {}
        # Of each lane all letters that ever lay there, and how many of them are heard.
        self._sent = {}
        self._heard = {}

    def join(self, name, hand):
        """Let a new hand stand beside a hand, whose whole book lies on the lane to it."""
        if not is_name(name):
            raise NoName("the new hand has no name")
        if name in self._books:
            raise Twice("there is such a hand already")
        self._check_hand(hand)
        self._sent[(hand, name)] = self.book(hand)
        self._sent[(name, hand)] = []
        self._heard[(hand, name)] = 0
        self._heard[(name, hand)] = 0
        self._near[hand].append(name)
        self._near[name] = [hand]
        self._beside[name] = hand
        self._books[name] = {}

    def shout(self, hand, word):
        """Let a hand shout a word that nobody has shouted."""
        self._check_hand(hand)
        if not is_name(word):
            raise NoName("this is no word")
        if word in self._mouths:
            raise Twice("the word was shouted ahead")
        self._mouths[word] = hand
        self._write(hand, word, None)

    def step(self, hand, other):
        """Let the other hand hear the first letter that lies from the hand to it."""
        self._check_hand(hand)
        self._check_hand(other)
        if self._many_on((hand, other)) == 0:
            raise Empty("nothing lies there")
        self._hear(hand, other)

    def rest(self):
        """Step until nothing lies, each time on the least lane on which anything does; tell how many steps."""
        waiting = [lane for lane in self._sent if self._many_on(lane) > 0]
        heapify(waiting)
        many = 0
        while waiting:
            hand, other = heappop(waiting)
            self._hear(hand, other)
            many += 1
            if self._many_on((hand, other)) > 0:
                heappush(waiting, (hand, other))
            for third in self._near[other]:
                # Where just one letter lies now, none did, so that lane is not waiting yet.
                if third != hand and self._many_on((other, third)) == 1:
                    heappush(waiting, (other, third))
        return many

    def web(self):
        """Tell the web: hands and roads in order."""
        roads = [(one, other) for one, other in self._sent if one < other]
        return (sorted(self._books), sorted(roads))

    def words(self):
        """Tell all words that were shouted, in order."""
        return sorted(self._mouths)

    def mouth(self, word):
        """Tell the hand that shouted a word."""
        self._check_word(word)
        return self._mouths[word]

    def book(self, hand):
        """Tell a hand's book."""
        self._check_hand(hand)
        return list(self._books[hand])

    def lane(self, hand, other):
        """Tell what lies from a hand to another one, the first letter ahead."""
        self._check_hand(hand)
        self._check_hand(other)
        if (hand, other) not in self._sent:
            return []
        return self._sent[(hand, other)][self._heard[(hand, other)]:]

    def lying(self):
        """Tell how many letters lie."""
        return sum([self._many_on(lane) for lane in self._sent])

    def moment(self):
        """Tell the moment: the web, all mouths and all books."""
        mouths = {word: self._mouths[word] for word in self.words()}
        books = {hand: self.book(hand) for hand in sorted(self._books)}
        return (self.web(), mouths, books)

    def next_words(self, hand):
        """Tell, in order, the words that a hand can hear next."""
        self._check_hand(hand)
        lanes = [(other, hand) for other in self._near[hand]]
        return sorted([self._sent[lane][self._heard[lane]] for lane in lanes if self._many_on(lane) > 0])

    def settled(self, hand, word, other):
        """Tell which of two words stands ahead in a hand's book, or will; None, where that is open."""
        self._check_hand(hand)
        self._check_word(word)
        self._check_word(other)
        if word == other:
            raise Alike("the two words are one")
        # From where the ways meet both words come by one way, and so in the order of that book.
        book = self._books[self._meeting(hand, self._mouths[word], self._mouths[other])]
        if word in book and other in book:
            return word if book[word] < book[other] else other
        if word in book:
            return word
        return other if other in book else None

    def hearings_to(self, hand, word):
        """Tell by how few hearings, anywhere, a hand can have a word."""
        self._check_hand(hand)
        self._check_word(word)
        way = self._way(self._mouths[word], hand)
        # The first hands of the way have the word, the last one of them lets it lie on the lane to the next.
        having = len([one for one in way if word in self._books[one]])
        if having == len(way):
            return 0
        lane = (way[having - 1], way[having])
        many = self._sent[lane].index(word) + 1 - self._heard[lane]
        told = many
        for further in zip(way[having:], way[having + 1:]):
            many += self._many_on(further)
            told += many
        return told

    def _check_hand(self, thing):
        """Refuse what is no hand of the net."""
        # What is no text may fail where it is looked up.
        if type(thing) is not str or thing not in self._books:
            raise NoHand("this is no hand of the net")

    def _check_word(self, thing):
        """Refuse what nobody has shouted."""
        if type(thing) is not str or thing not in self._mouths:
            raise NoWord("nobody has shouted this")

    def _many_on(self, lane):
        """Tell how many letters lie on a lane, 0 without a road."""
        if lane not in self._sent:
            return 0
        return len(self._sent[lane]) - self._heard[lane]

    def _hear(self, hand, other):
        """Let the other hand hear the first letter of a lane on which something lies."""
        lane = (hand, other)
        word = self._sent[lane][self._heard[lane]]
        self._heard[lane] += 1
        self._write(other, word, hand)

    def _write(self, hand, word, source):
        """Write a word at the end of a hand's book, and lay it on the lanes to all neighbours but its source."""
        book = self._books[hand]
        book[word] = len(book)
        for other in self._near[hand]:
            if other != source:
                self._sent[(hand, other)].append(word)

    def _way_to_first(self, hand):
        """Tell the way from a hand to the first one of the net."""
        way = [hand]
        while self._beside[way[-1]] is not None:
            way.append(self._beside[way[-1]])
        return way

    def _way(self, one, other):
        """Tell the way between two hands."""
        ones = self._way_to_first(one)
        others = self._way_to_first(other)
        # Both end with the first hand; of what they share the way has only the hand that they come to first.
        while ones[-2:-1] == others[-2:-1] and len(ones) > 1:
            ones.pop()
            others.pop()
        return ones + others[:-1][::-1]

    def _meeting(self, one, two, three):
        """Tell the hand that lies on the way between each two of three hands."""
        to_three = {hand: True for hand in self._way(one, three)}
        return [hand for hand in self._way(one, two) if hand in to_three][-1]
