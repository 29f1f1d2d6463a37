"""Point 22, and 4 (f): lines whose words are shouted at both ends alone, their rests and heaps."""

import random
import time
import unittest
from fractions import Fraction
from itertools import permutations, product

from heardapart.errors import Common, NoBook, NoHeap, NoLine, NoNumber, TooMany
from heardapart.lines import heap_of, how_many_rests, rest_of

from tests.odd import odd_things
from tests.plain_nets import net_of, plain_net_of
from tests.trials import error_of, line_lets, line_web, some_names

ODD_NUMBERS = [True, False, None, -1, 0.5, 1.0, 2.0, "1", [1], (1,), {}, float("nan"), float("inf"), 2j, b"1"]
SMALL = [(ones, others, hands) for ones, others, hands in product(range(4), range(4), range(1, 5))
         if ones + others < 5 and hands * (ones + others) < 13]


def mixed(ones, others):
    """All books with two sorts of words, each in their order."""
    if not ones or not others:
        return [ones + others]
    firsts = [ones[:1] + book for book in mixed(ones[1:], others)]
    return firsts + [others[:1] + book for book in mixed(ones, others[1:])]


def is_rest_by_words(ones, others, rest):
    """Whether the roads let such books of a line, by the words of point 15."""
    return line_lets(rest, {**{word: 0 for word in ones}, **{word: len(rest) - 1 for word in others}})


def rests_by_trial(ones, others, hands):
    return [list(rest) for rest in product(mixed(ones, others), repeat=hands) if is_rest_by_words(ones, others, rest)]


def heaps_by_trial(ones, others, hands):
    """All heaps of so many lists of so many numbers."""
    rows = [list(row) for row in product(range(hands + 1), repeat=others) if list(row) == sorted(row, reverse=True)]
    return [list(heap) for heap in product(rows, repeat=ones)
            if all(heap[k][j] <= heap[k + 1][j] for k in range(ones - 1) for j in range(others))]


def heap_by_words(ones, others, rest):
    return [[sum(book.index(b) < book.index(a) for book in rest) for b in others] for a in ones]


def product_by_words(ones, others, hands):
    told = Fraction(1)
    for i in range(1, ones + 1):
        for j in range(1, others + 1):
            told *= Fraction(i + j + hands - 1, i + j - 1)
    return told


def sorts(ones, others):
    """So many words of the one sort and of the other."""
    return some_names(ones), [word[::-1] + "z" for word in some_names(others)]


def drawn_rest(rnd, ones, others, hands):
    """The rest of a line to which a drawn order of shouts and hearings led."""
    names = some_names(hands)
    net = net_of(plain_net_of(line_web(names)))
    left = [list(ones), list(others)]
    while left[0] or left[1] or net.lying():
        lanes = [(a, b) for a in names for b in names if net.lane(a, b)]
        side = rnd.randrange(2)
        if lanes and rnd.randrange(3):
            net.step(*rnd.choice(lanes))
        elif left[side]:
            net.shout(names[-side], left[side].pop(0))
    return [net.book(name) for name in names]


class RestsAndHeaps(unittest.TestCase):
    def test_all_small_rests(self):
        for many, width, hands in SMALL:
            ones, others = sorts(many, width)
            heaps = []
            for rest in rests_by_trial(ones, others, hands):
                heap = heap_of(ones, others, rest)
                self.assertEqual(heap_by_words(ones, others, rest), heap)
                self.assertEqual(rest, rest_of(ones, others, hands, heap))
                heaps.append(heap)
            self.assertEqual(heaps_by_trial(many, width, hands), sorted(heaps))
            self.assertEqual(len(heaps), how_many_rests(many, width, hands))

    def test_all_small_heaps(self):
        for many, width, hands in SMALL:
            ones, others = sorts(many, width)
            for heap in heaps_by_trial(many, width, hands):
                rest = rest_of(ones, others, hands, heap)
                self.assertEqual(hands, len(rest))
                self.assertTrue(is_rest_by_words(ones, others, rest))
                self.assertEqual(heap, heap_by_words(ones, others, rest))
                self.assertEqual(heap, heap_of(ones, others, rest))

    def test_which_small_lists_are_rests(self):
        for ones, others in ((["a"], ["b"]), (["b", "a"], ["c"]), (["a"], ["c", "b"]), (["a", "c"], []), ([], ["a"])):
            words = sorted(ones + others)
            some = [list(book) for many in range(len(words) + 1) for book in product(words, repeat=many)]
            for hands in (1, 2):
                told = rests_by_trial(ones, others, hands)
                for rest in product(some, repeat=hands):
                    wanted = None if list(rest) in told else NoLine
                    self.assertIs(wanted, error_of(heap_of, ones, others, list(rest)))

    def test_which_small_lists_are_heaps(self):
        for many, width, hands in ((1, 1, 2), (2, 1, 2), (1, 2, 2), (2, 2, 1), (2, 0, 1), (0, 2, 1)):
            ones, others = sorts(many, width)
            told = heaps_by_trial(many, width, hands)
            rows = [list(row) for k in range(4) for row in product(range(-1, hands + 2), repeat=k)][:60]
            for size in range(4):
                for heap in product(rows[:60 if size < 3 else 6], repeat=size):
                    wanted = None if list(heap) in told else NoHeap
                    self.assertIs(wanted, error_of(rest_of, ones, others, hands, list(heap)))

    def test_one_hand(self):
        self.assertEqual([["b", "a"]], rest_of(["a"], ["b"], 1, [[1]]))
        self.assertEqual([["a", "b"]], rest_of(["a"], ["b"], 1, [[0]]))
        self.assertEqual([[1, 0], [1, 1]], heap_of(["a", "c"], ["b", "d"], [["b", "a", "d", "c"]]))
        self.assertIs(NoLine, error_of(heap_of, ["a", "c"], ["b", "d"], [["b", "c", "d", "a"]]))

    def test_no_words_of_a_sort(self):
        for ones, others, heap in (([], ["x", "y"], []), (["y", "x"], [], [[], []]), ([], [], [])):
            for hands in (1, 2, 7):
                rest = rest_of(ones, others, hands, heap)
                self.assertEqual([ones + others] * hands, rest)
                self.assertEqual(heap, heap_of(ones, others, rest))
            self.assertEqual(1, how_many_rests(len(ones), len(others), 7))
        self.assertIs(NoHeap, error_of(rest_of, [], ["x"], 3, [[]]))
        self.assertIs(NoHeap, error_of(rest_of, ["x"], [], 3, []))

    def test_a_small_one(self):
        ones, others = ["hay", "egg"], ["oak", "ash"]
        rest = [["hay", "oak", "egg", "ash"], ["oak", "hay", "ash", "egg"]]
        self.assertEqual([[1, 0], [2, 1]], heap_of(ones, others, rest))
        self.assertEqual(rest, rest_of(ones, others, 2, [[1, 0], [2, 1]]))
        self.assertIs(NoLine, error_of(heap_of, ones, others, rest[::-1]))
        self.assertIs(NoLine, error_of(heap_of, others, ones, rest))
        self.assertEqual(20, how_many_rests(2, 2, 2))

    def test_rests_to_which_nets_come(self):
        heaps = []
        for seed in range(150):
            rnd = random.Random(seed)
            many, width, hands = rnd.randrange(5), rnd.randrange(5), rnd.randrange(1, 6)
            ones, others = sorts(many, width)
            rest = drawn_rest(rnd, ones, others, hands)
            heap = heap_of(ones, others, rest)
            self.assertEqual(heap_by_words(ones, others, rest), heap)
            self.assertEqual(rest, rest_of(ones, others, hands, heap))
            heaps.append(repr(heap))
        self.assertTrue(len(set(heaps)) > 60)

    def test_a_hundred_hands_and_fifty_words_of_each_sort(self):
        ones, others = sorts(50, 50)
        heap = [[(k + 50 - j) for j in range(50)] for k in range(50)]
        start = time.monotonic()
        rest = rest_of(ones, others, 100, heap)
        self.assertEqual(heap, heap_of(ones, others, rest))
        self.assertLess(time.monotonic() - start, 2)
        self.assertEqual(heap_by_words(ones, others, rest), heap)
        self.assertIs(NoLine, error_of(heap_of, ones, others, rest[::-1]))

    def test_more_hands_than_a_hundred(self):
        rest = rest_of(["a"], ["b"], 12345, [[345]])
        self.assertEqual([["a", "b"]] * 12000 + [["b", "a"]] * 345, rest)
        self.assertEqual([[345]], heap_of(["a"], ["b"], rest))


class HowMany(unittest.TestCase):
    def test_the_product(self):
        for many, width, hands in product(range(7), range(7), range(1, 9)):
            told = how_many_rests(many, width, hands)
            self.assertEqual(product_by_words(many, width, hands), told)
            self.assertIs(int, type(told))

    def test_greater_numbers(self):
        for many, width, hands in ((100, 1, 50), (1, 100, 999999999), (12, 30, 123456789), (100, 100, 100), (40, 7, 3)):
            self.assertEqual(product_by_words(many, width, hands), how_many_rests(many, width, hands))
        self.assertEqual(1000000000, how_many_rests(1, 1, 999999999))
        self.assertEqual(1, how_many_rests(0, 100, 999999999))

    def test_it_is_one_for_all_orders_of_the_sides_of_the_box(self):
        for many, width, hands in ((3, 9, 27), (100, 2, 60), (11, 100, 99)):
            told = [how_many_rests(*sides) for sides in permutations((many, width, hands))]
            self.assertEqual(1, len(set(told)))

    def test_a_hundred_words_and_nine_figures_in_short_time(self):
        start = time.monotonic()
        self.assertGreater(how_many_rests(100, 100, 999999999).bit_length(), 200000)
        self.assertLess(time.monotonic() - start, 2)

    def test_no_number(self):
        for thing in ODD_NUMBERS + odd_things():
            for args in ((thing, 1, 1), (1, thing, 1), (1, 1, thing), (thing, thing, thing), (101, 101, thing),
                         (thing, 101, 1), (101, thing, 1), (101, 1, thing)):
                self.assertIs(NoNumber, error_of(how_many_rests, *args))
        for args in ((1, 1, 0), (-1, 1, 1), (1, -1, 1), (101, 101, 0), (0, 0, 0), (-101, 200, 1)):
            self.assertIs(NoNumber, error_of(how_many_rests, *args))

    def test_too_many(self):
        for args in ((101, 1, 1), (1, 101, 1), (101, 101, 9), (999999999, 0, 1), (0, 101, 1)):
            self.assertIs(TooMany, error_of(how_many_rests, *args))
        self.assertEqual(2, how_many_rests(1, 1, 1))
        self.assertEqual(101, how_many_rests(100, 1, 1))


class Refusals(unittest.TestCase):
    def assert_both(self, wanted, ones, others, thing):
        """Both refuse so, whatever stands behind the two books."""
        for rest in (thing, None, [["a", "x"]], []):
            self.assertIs(wanted, error_of(heap_of, ones, others, rest))
            for hands in (1, 0, True, thing):
                self.assertIs(wanted, error_of(rest_of, ones, others, hands, rest))

    def test_no_book(self):
        for thing in odd_things() + [["a", "a"], "ab", ("a", "b"), {"a": 0}, None, ["A"], [["a"]]]:
            if type(thing) is not list or thing != []:
                self.assert_both(NoBook, thing, ["x"], thing)
                self.assert_both(NoBook, ["x"], thing, thing)
                self.assert_both(NoBook, thing, thing, thing)

    def test_common(self):
        for thing in odd_things():
            self.assert_both(Common, ["a", "b"], ["x", "b"], thing)
            self.assert_both(Common, ["a"], ["a"], thing)

    def test_no_line(self):
        ones, others = ["a", "b"], ["x"]
        rest = [["a", "b", "x"], ["a", "x", "b"], ["x", "a", "b"]]
        self.assertEqual([[1], [2]], heap_of(ones, others, rest))
        for k, thing in enumerate(odd_things()):
            with self.subTest(k):
                for wrong in (thing, [thing], rest + [thing], [thing] + rest, [["a", "x", thing]], [["a", thing, "b"]],
                              [["a", "x", "b"], thing], [["x", "a", "b"], [thing, "a", "b"]]):
                    self.assertIs(NoLine, error_of(heap_of, ones, others, wrong))
        for wrong in ([], rest[::-1], tuple(rest), [tuple(book) for book in rest], ["abx"], [["a", "b"]],
                      [["b", "a", "x"]], [["a", "b", "x", "x"]], [["a", "b", "x", "y"]], [["a", "b", "b"]],
                      [["a", "x", "x"]], [[]], [["a", "b", "y"]], {"a": rest}, rest[0],
                      [["a", "x", "b"], ["a", "b", "x"]], None):
            self.assertIs(NoLine, error_of(heap_of, ones, others, wrong))
        self.assertIs(NoLine, error_of(heap_of, [], [], []))
        self.assertIs(NoLine, error_of(heap_of, [], [], [["a"]]))
        self.assertEqual([], heap_of([], [], [[], []]))

    def test_no_number_of_hands(self):
        for thing in ODD_NUMBERS + odd_things() + [0, -3]:
            for heap in ([[0]], None, thing, []):
                self.assertIs(NoNumber, error_of(rest_of, ["a"], ["x"], thing, heap))

    def test_no_heap(self):
        ones, others, heap = ["a", "b"], ["x", "y"], [[2, 1], [3, 1]]
        self.assertEqual(3, len(rest_of(ones, others, 3, heap)))
        for k, thing in enumerate(odd_things() + ODD_NUMBERS):
            with self.subTest(k):
                for wrong in (thing, [thing], [thing, thing], [[2, 1], thing], [thing, [3, 1]], heap + [thing],
                              [[2, thing], [3, 1]], [[thing, 1], [3, 1]], [[2, 1], [3, thing]],
                              [[2, 1, thing], [3, 1]]):
                    self.assertIs(NoHeap, error_of(rest_of, ones, others, 3, wrong))
        for wrong in ([[2, 1], [3, 0]], [[1, 2], [3, 2]], [[2, 1], [1, 1]], [[2, 1], [4, 1]], [[2, -1], [3, 1]],
                      [[2, 1]], [[2, 1], [3]], [[2], [3, 1]], [[2, 1], [3, 1], [3, 1]], tuple(heap), [(2, 1), (3, 1)],
                      [], [[], []], [[2, 1, 0], [3, 1, 0]], {0: [2, 1], 1: [3, 1]}, [[2, True], [3, True]], None):
            self.assertIs(NoHeap, error_of(rest_of, ones, others, 3, wrong))
        self.assertIs(NoHeap, error_of(rest_of, ones, others, 2, heap))
        self.assertIs(NoHeap, error_of(rest_of, ones, others, 999999999, [[0, 1], [0, 1]]))


if __name__ == "__main__":
    unittest.main()
