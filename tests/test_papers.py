"""Point 20: papers that given books were heard nowhere."""

import unittest
from itertools import permutations

from heardapart.worlds import is_paper, world_or_paper

from tests.odd import odd_things
from tests.parting_trials import books_of, has_behind, has_corners, has_round
from tests.world_trials import near_papers

CORNERS = books_of("abcd", "bacd", "abdc", "badc")
ROUND = books_of("abc", "bca", "cab")
BEHIND = books_of("vwu", "uwv", "uvw")


class Papers(unittest.TestCase):
    def test_all_in_the_form_of_papers(self):
        for books in (CORNERS, ROUND, BEHIND, books_of("abc", "bac", "cab", "cba"), books_of("abc"),
                      books_of("ab", "ba"), books_of("abc", "acb", "bac", "bca", "cab")):
            found = {kind: 0 for kind in ("corners", "round", "behind")}
            for paper, wanted in near_papers(books):
                self.assertIs(wanted, is_paper(books, paper))
                found[paper[0]] += wanted
            self.assertEqual([has_corners(books), has_round(books), has_behind(books)],
                             [found[kind] > 0 for kind in ("corners", "round", "behind")])

    def test_two_pairs_with_a_word_in_common(self):
        books = books_of("abc", "acb", "bac", "cba")
        self.assertIs(True, is_paper(books, ("corners", ("a", "b"), ("b", "c"), ("d", "b", "a", "c"))))
        self.assertIs(False, is_paper(books, ("corners", ("a", "b"), ("b", "a"), ("d", "b", "a", "c"))))
        self.assertIs(False, is_paper(books, ("corners", ("a", "b"), ("a", "b"), ("d", "b", "a", "c"))))

    def test_corners_in_any_order_of_names(self):
        for names in permutations("abcd"):
            for pairs in ((("a", "b"), ("c", "d")), (("d", "c"), ("a", "b"))):
                self.assertIs(True, is_paper(CORNERS, ("corners", *pairs, names)))

    def test_one_thing_otherwise(self):
        # Two texts in a tuple may be a pair of words.
        odd = [thing for thing in odd_things()
               if not (type(thing) is tuple and len(thing) == 2 and type(thing[0]) is type(thing[1]) is str)]
        for books in (CORNERS, ROUND, BEHIND):
            told = world_or_paper(books)
            self.assertIs(True, is_paper(books, told))
            for k, part in enumerate(told):
                others = odd + [part[:-1], part + part[:1], list(part), " ".join(part)]
                if k == 0:
                    others += [kind for kind in ("round", "corners", "behind", "world") if kind != part]
                elif told[0] != "corners":
                    others += [other for other in permutations(part) if other != part and told[0] == "round"]
                for other in others:
                    self.assertIs(False, is_paper(books, told[:k] + (other,) + told[k + 1:]))
                self.assertIs(False, is_paper(books, told[:k] + told[k + 1:]))
                self.assertIs(False, is_paper(books, told[:k] + (part,) + told[k:]))
            self.assertIs(False, is_paper(books, list(told)))
            self.assertIs(False, is_paper(books, told + (None,)))

    def test_words_and_names_otherwise(self):
        for books in (CORNERS, ROUND, BEHIND):
            told = world_or_paper(books)
            for k, part in enumerate(told[1:], 1):
                for at in range(len(part)):
                    for other in odd_things() + ["zz", "", part[at - 1], [part[at]], (part[at],), None]:
                        if type(other) is str and other in "abcduvw" and len(other) == 1:
                            continue
                        wrong = told[:k] + (part[:at] + (other,) + part[at + 1:],) + told[k + 1:]
                        self.assertIs(False, is_paper(books, wrong))

    def test_anything(self):
        for books in (CORNERS, ROUND, BEHIND, books_of("xyz"), books_of("")):
            for k, thing in enumerate(odd_things() + [[], "corners", ("corners",), ("round", (), ()),
                                                      ("behind", [], []), ("corners", (), (), ()), ("world", None)]):
                with self.subTest(k):
                    for wrong in (thing, [thing], (thing,), (thing, thing, thing), (thing, thing, thing, thing),
                                  ("round", thing, thing), ("behind", thing, ("a", "b", "c")),
                                  ("behind", ("a", "b", "c"), thing), ("corners", thing, thing, thing),
                                  ("corners", ("a", "b"), thing, ("a", "b", "c", "d")),
                                  ("corners", ("a", "b"), ("c", "d"), thing)):
                        self.assertIs(False, is_paper(books, wrong))
        self.assertIs(False, is_paper(books_of("xyz"), world_or_paper(books_of("xyz"))))

    def test_a_paper_of_other_books(self):
        told = [world_or_paper(books) for books in (CORNERS, ROUND, BEHIND)]
        for k, books in enumerate((CORNERS, ROUND, BEHIND)):
            self.assertEqual([one == k for one in range(3)], [is_paper(books, paper) for paper in told])
            for paper in told:
                self.assertIs(False, is_paper(books_of("abcd"), paper))


if __name__ == "__main__":
    unittest.main()
