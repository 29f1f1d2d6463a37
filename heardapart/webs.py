"""Names, and webs of hands and roads (points 5 and 6)."""

from heardapart.errors import NoHand, NoRoad, NoWeb

MOST_LETTERS = 8


def is_name(thing):
    """Tell of anything whether it is a name."""
    # Kinds are asked by type() throughout: isinstance() asks the thing itself, which may lie or fail.
    if type(thing) is not str or not 1 <= len(thing) <= MOST_LETTERS:
        return False
    return all("a" <= letter <= "z" for letter in thing)


def are_unlike_names(thing):
    """Tell of anything whether it is a list of names, no two alike."""
    if type(thing) is not list or not all(is_name(name) for name in thing):
        return False
    return len(set(thing)) == len(thing)


def is_pair(thing):
    """Tell of anything whether it is a tuple of two things."""
    return type(thing) is tuple and len(thing) == 2


def is_road(thing, hands):
    """Tell of anything whether it is a road between two of the hands, a dict's keys."""
    if not is_pair(thing):
        return False
    one, other = thing
    # What is no text may fail where it is looked up or compared.
    if type(one) is not str or type(other) is not str:
        return False
    return one in hands and other in hands and one < other


def is_web(thing):
    """Tell of anything whether it is a web."""
    if not is_pair(thing):
        return False
    hands, roads = thing
    if not are_unlike_names(hands) or hands == []:
        return False
    if type(roads) is not list or len(roads) != len(hands) - 1:
        return False
    known = {hand: True for hand in hands}
    if not all(is_road(road, known) for road in roads):
        return False
    # So few roads reach all hands only where they are unlike and make no ring.
    return len(hands_ahead(thing, hands[0], None)) == len(hands)


def way_between(web, one, other):
    """Tell the hands from the one to the other, both with them."""
    check_web(web)
    check_hand(web, one)
    check_hand(web, other)
    return way_in(web, one, other)


def side_of(web, one, other):
    """Tell, in order, the hands that are not beyond the other of two neighbours."""
    check_web(web)
    check_hand(web, one)
    check_hand(web, other)
    if (one, other) not in web[1] and (other, one) not in web[1]:
        raise NoRoad("the two hands are no neighbours")
    return sorted(hands_ahead(web, one, other))


def meeting_of(web, one, two, three):
    """Tell the hand that lies on the way between each two of three hands."""
    check_web(web)
    check_hand(web, one)
    check_hand(web, two)
    check_hand(web, three)
    # From the first hand the ways to the other two run together up to where all three meet.
    to_three = way_in(web, one, three)
    shared = [hand for hand in way_in(web, one, two) if hand in to_three]
    return shared[-1]


def check_web(thing):
    """Refuse what is no web."""
    if not is_web(thing):
        raise NoWeb("this is no web")


def check_hand(web, thing):
    """Refuse what is no hand of the web."""
    if type(thing) is not str or thing not in web[0]:
        raise NoHand("this is no hand of the web")


def neighbours_in(web):
    """Tell each hand's neighbours: a dict from hands to lists."""
    hands, roads = web
    near = {hand: [] for hand in hands}
    for one, other in roads:
        near[one].append(other)
        near[other].append(one)
    return near


def hands_ahead(web, start, barred):
    """Tell for each hand that is reached from start, but not through the barred one, the hand ahead of it."""
    near = neighbours_in(web)
    ahead = {start: None}
    waiting = [start]
    while waiting:
        hand = waiting.pop()
        for other in near[hand]:
            if other not in ahead and other != barred:
                ahead[other] = hand
                waiting.append(other)
    return ahead


def way_in(web, one, other):
    """Tell the way between two hands of a web that are known to be such."""
    ahead = hands_ahead(web, other, None)
    way = [one]
    while way[-1] != other:
        way.append(ahead[way[-1]])
    return way
