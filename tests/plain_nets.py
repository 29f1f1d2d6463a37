"""Nets as the document's words tell them, by lists alone, and a trial of all that can come of them."""

from heardapart.nets import Net


class PlainNet:
    """What the tests hold a Net against; it refuses nothing."""

    def __init__(self, first):
        self.books = {first: []}
        self.lanes = {}
        self.mouths = {}

    def near(self, hand):
        return [other for one, other in self.lanes if one == hand]

    def join(self, name, hand):
        self.lanes[hand, name] = list(self.books[hand])
        self.lanes[name, hand] = []
        self.books[name] = []

    def shout(self, hand, word):
        self.mouths[word] = hand
        self.write(hand, word, None)

    def step(self, hand, other):
        self.write(other, self.lanes[hand, other].pop(0), hand)

    def write(self, hand, word, source):
        self.books[hand].append(word)
        for other in self.near(hand):
            if other != source:
                self.lanes[hand, other].append(word)

    def filled(self):
        """All lanes on which something lies, in order."""
        return sorted(lane for lane in self.lanes if self.lanes[lane])

    def rest(self):
        many = 0
        while self.filled():
            least = min(hand for hand, _ in self.filled())
            self.step(least, min(other for hand, other in self.filled() if hand == least))
            many += 1
        return many

    def web(self):
        return sorted(self.books), sorted(lane for lane in self.lanes if lane[0] < lane[1])

    def moment(self):
        return self.web(), dict(self.mouths), {hand: list(book) for hand, book in self.books.items()}

    def copy(self):
        told = PlainNet("a")
        told.books = {hand: list(book) for hand, book in self.books.items()}
        told.lanes = {lane: list(letters) for lane, letters in self.lanes.items()}
        told.mouths = dict(self.mouths)
        return told

    def key(self):
        """What two nets of one web and with the same mouths have alike where they are alike."""
        return (tuple(tuple(book) for _, book in sorted(self.books.items())),
                tuple(tuple(letters) for _, letters in sorted(self.lanes.items())))


def plain_net_of(web):
    """A plain net without words, of the hands and roads of a web."""
    hands, roads = web
    told = PlainNet(hands[0])
    while len(told.books) < len(hands):
        for one, other in roads:
            if one in told.books and other not in told.books:
                told.join(other, one)
            elif other in told.books and one not in told.books:
                told.join(one, other)
    return told


def heard_next(net):
    """All nets that come of a plain net by one hearing."""
    found = []
    for lane in net.filled():
        told = net.copy()
        told.step(*lane)
        found.append(told)
    return found


def shouted_next(net, mouths):
    """All nets that come of a plain net by one shout, by some mouths."""
    found = []
    for word, hand in mouths.items():
        if word not in net.mouths:
            told = net.copy()
            told.shout(hand, word)
            found.append(told)
    return found


def all_reached(net, mouths):
    """All nets, itself too, that come of a plain net by hearings, and by shouts of some mouths."""
    found = {net.key(): net}
    waiting = [net]
    while waiting:
        one = waiting.pop()
        for told in heard_next(one) + shouted_next(one, mouths):
            if told.key() not in found:
                found[told.key()] = told
                waiting.append(told)
    return list(found.values())


def rests_by_trial(net):
    """The books of all rests to which a plain net can come."""
    return [told.books for told in all_reached(net, {}) if not told.filled()]


def settled_by_trial(rests, hand, word, other):
    """Which of two words stands ahead in a hand's book in all rests, None where it is either of them."""
    found = {word if books[hand].index(word) < books[hand].index(other) else other for books in rests}
    return found.pop() if len(found) == 1 else None


def hearings_by_trial(net):
    """By how few hearings each hand can have each word: a dict from tuples of both."""
    told = {}
    level = {net.key(): net}
    many = 0
    while level:
        for one in level.values():
            for hand, book in one.books.items():
                for word in book:
                    told.setdefault((hand, word), many)
        level = {after.key(): after for one in level.values() for after in heard_next(one)}
        many += 1
    return told


def drawn_deed(rnd, net, hands, words):
    """A deed that a plain net can do, drawn from all kinds of deeds: a tuple of its name and its arguments."""
    new_hands = [hand for hand in hands if hand not in net.books]
    new_words = [word for word in words if word not in net.mouths]
    kinds = []
    if new_hands:
        kinds.append("join")
    if new_words:
        kinds.append("shout")
    if net.filled():
        kinds += ["step", "step", "step"]
    if not kinds:
        return None
    kind = rnd.choice(kinds)
    if kind == "join":
        return kind, rnd.choice(new_hands), rnd.choice(sorted(net.books))
    if kind == "shout":
        return kind, rnd.choice(sorted(net.books)), rnd.choice(new_words)
    return kind, *rnd.choice(net.filled())


def do(net, deed):
    """Do a deed with a net of either kind."""
    kind, *args = deed
    return getattr(net, kind)(*args)


def drawn_nets(rnd, hands, words, deeds):
    """A Net and a plain net by the same drawn deeds, of which all hands and words may be part."""
    first = rnd.choice(hands)
    net, plain = Net(first), PlainNet(first)
    for _ in range(deeds):
        deed = drawn_deed(rnd, plain, hands, words)
        if deed is not None:
            do(net, deed)
            do(plain, deed)
    return net, plain


def net_of(plain):
    """A Net that is at rest in the web of a plain net, without words."""
    hands = list(plain.books)
    net = Net(hands[0])
    for one, other in plain.lanes:
        if hands.index(one) < hands.index(other):
            net.join(other, one)
    return net
