"""Odd things: whatever is asked of them fails, lies or never ends."""

from collections import OrderedDict, defaultdict, namedtuple


class Broken(Exception):
    """What an odd thing raises when it is asked anything."""


def breaks(*told, **more):
    raise Broken("an odd thing was asked")


ASKED = ("__eq__", "__ne__", "__lt__", "__le__", "__gt__", "__ge__", "__hash__", "__len__", "__iter__",
         "__contains__", "__getitem__", "__bool__", "__str__", "__repr__", "__format__", "__int__", "__index__",
         "__add__", "__sub__", "__mul__", "__getattribute__")


def odd_class(base, hashed=None):
    """A class under base of which every object breaks where it is asked (but for its hash, where one is given)."""
    body = {name: breaks for name in ASKED}
    body["__class__"] = property(breaks)
    if hashed is not None:
        body["__hash__"] = lambda self: hashed
    return type("Odd", (base,), body)


class Yes:
    """It is equal to all, and says that it is a text."""

    __class__ = str

    def __init__(self, text):
        self.text = text

    def __eq__(self, other):
        return True

    def __hash__(self):
        return hash(self.text)

    def __len__(self):
        return 1

    def __iter__(self):
        return iter(self.text)

    def __lt__(self, other):
        return True

    def __gt__(self, other):
        return True

    def __le__(self, other):
        return True

    def __ge__(self, other):
        return True


class Liar(type):
    """A class of classes that are equal to all classes."""

    def __eq__(cls, other):
        return True

    def __hash__(cls):
        return hash(str)

    def __instancecheck__(cls, thing):
        raise Broken("an odd class was asked")


class OfLiar(metaclass=Liar):
    pass


class Text(str):
    pass


class Number(int):
    pass


class Row(list):
    pass


class Pair(tuple):
    pass


class Table(dict):
    def __missing__(self, key):
        return 0


def endless_list():
    told = []
    told.append(told)
    return told


def endless_dict():
    told = {}
    told["a"] = told
    return told


def deep(many, kind):
    told = kind(["a"])
    for _ in range(many):
        told = kind([told])
    return told


def letters():
    yield "a"
    yield "b"


def odd_things():
    """Things of no kind that the program tells, or of a kind that is near to one."""
    bare = odd_class(object)
    return [
        None, True, False, -1, 0.5, 1.0, float("nan"), float("inf"), 2j, b"", b"a", bytearray(b"a"),
        "", " ", "A", "a b", "aA", "a1", "abcdefghi", "\u00e9", "\ud800", "a\n", "\x00",
        [[]], (), ((),), {}, {"a": 1}, {1: "a"}, {"a": None}, {"a": True}, set(), {"a"}, frozenset(["a"]),
        [1], [None], ["a", "a"], ["a", 1], ["a", ["b"]], ("a",), ("a", "b"), ("b", "a"), [("a", "b")], ["A"],
        (["a"], [], []), (["a"],), [["a"], []], (("a",), []), (["a"], ()), ({"a": 1}, []), (["a"], {}),
        object(), object, str, list, len, breaks, NotImplemented, Ellipsis, range(2), iter(["a"]), letters(),
        bare(), [bare()], ["a", bare()], (bare(), bare()), [(bare(), "b")], ([bare()], []), (["a"], [bare()]),
        (["a", "b"], [(bare(), "b")]), (["a", "b"], [("a", bare())]), (["a", "b"], bare()), (bare(), []),
        [[bare()]], [["a"], bare()], [["a"], ["b", bare()]],
        odd_class(object, hash("a"))(), [odd_class(object, hash("a"))()], {odd_class(object, hash("a"))(): 0},
        {"a": bare()}, {odd_class(object, hash("a"))(): bare(), "b": 1},
        odd_class(str)("a"), ["b", odd_class(str)("a")], (["a", odd_class(str)("b")], [("a", "b")]),
        {odd_class(str, hash("a"))("a"): 0}, {odd_class(str, hash("a"))("a"): 0, "b": 1},
        odd_class(list)(["a"]), odd_class(list)(), (odd_class(list)(["a"]), []), (["a"], odd_class(list)()),
        odd_class(tuple)(["a", "b"]), odd_class(tuple)([["a"], []]), odd_class(dict)(a=1), odd_class(int)(1),
        [odd_class(list)(["a"])], {"a": odd_class(int)(1)},
        Yes("a"), [Yes("a")], ["a", Yes("b")], (["a", "b"], [("a", Yes("b"))]), ([Yes("a")], []), {Yes("a"): 0},
        OfLiar(), OfLiar, [OfLiar()], (OfLiar(), OfLiar()), {"a": OfLiar()},
        endless_list(), endless_dict(), deep(5000, list), deep(5000, tuple), namedtuple("Web", "a b")(["a"], []),
        OrderedDict(a=1), defaultdict(int), Table(), Table(a=1), Text("A"), Number(-1), Row(), Pair(),
    ]


def fresh_things():
    """Things that are none of the program's in any book or web of these tests."""
    return odd_things() + ["zz", ["zz"], {"zz": 0}, [["zz"]], ("zz", "zy")]
