"""Lots of folk and of looks that have some of each ring, and the bound of the number of settled states."""

import unittest
from itertools import combinations

from helper import (
    CHASE, FRIENDS, LONG, MIXED, SELF, STRANGE, all_rules_by_word, error_of, is_even_by_word, rings_by_word,
    settled_by_word, some_webs,
)
from likespite.errors import BadWeb, BadWord
from likespite.pins import bound, bound_lot, cuts, pins

EXAMPLE = ((2, 1), ((0, 0, 1), (0, 1, -1), (1, 0, -1)))
CHAIN = ((1, 2, 3), ((0, 1, 1), (1, 2, -1)))
FOURTEEN = ((1, 3, 1, 2), tuple(sorted(
    [(one, other, (-1) ** (one * other)) for one in range(4) for other in range(4) if one != other]
    + [(0, 0, 1), (3, 3, -1)]
)))
WEBS = some_webs(31, 120) + some_webs(32, 60, most_folk=4) + [
    EXAMPLE, CHAIN, FRIENDS, CHASE, MIXED, SELF, LONG, FOURTEEN,
]


def lots_by_word(many, groups):
    """All lots of numbers below many that have some of each group."""
    lots = [lot for size in range(many + 1) for lot in combinations(range(many), size)]
    return [lot for lot in lots if all(set(lot) & set(group) for group in groups)]


def fewest(lots):
    few = min(map(len, lots))
    return tuple(sorted(lot for lot in lots if len(lot) == few))


def folk_by_word(web, ring):
    return {web[1][number][0] for number in ring}


def even_folk(web):
    """The folk of each even ring."""
    return [folk_by_word(web, ring) for ring in rings_by_word(web) if is_even_by_word(web, ring)]


def moods_by_word(web, lot):
    many = 1
    for folk in lot:
        many *= web[0][folk] + 1
    return many


class Pins(unittest.TestCase):
    def test_document(self):
        self.assertEqual(pins(EXAMPLE), ((0,),))

    def test_without_even_rings(self):
        for web in (CHAIN, CHASE, ((1,), ()), ((2,), ((0, 0, -1),))):
            self.assertEqual(pins(web), ((),))

    def test_one(self):
        self.assertEqual(pins(FRIENDS), ((0,), (1,)))
        self.assertEqual(pins(((1, 1, 1), ((0, 1, -1), (1, 2, 1), (2, 0, -1)))), ((0,), (1,), (2,)))

    def test_several(self):
        # Two rings apart.
        web = ((1,) * 4, ((0, 2, 1), (1, 3, -1), (2, 0, 1), (3, 1, -1)))
        self.assertEqual(pins(web), ((0, 1), (0, 3), (1, 2), (2, 3)))
        # Two rings that share 1.
        web = ((1,) * 3, ((0, 1, 1), (1, 0, 1), (1, 2, -1), (2, 1, -1)))
        self.assertEqual(pins(web), ((1,),))
        # All six look at themselves.
        web = ((1,) * 6, tuple((folk, folk, 1) for folk in range(6)))
        self.assertEqual(pins(web), ((0, 1, 2, 3, 4, 5),))

    def test_odd_rings_need_nobody(self):
        web = ((1,) * 3, ((0, 1, 1), (1, 0, 1), (2, 2, -1)))
        self.assertEqual(pins(web), ((0,), (1,)))

    def test_by_word(self):
        for web in WEBS:
            found = pins(web)
            with self.subTest(web=web):
                self.assertEqual(found, fewest(lots_by_word(len(web[0]), even_folk(web))))
                self.assertIs(type(found), tuple)
                self.assertTrue(all(type(lot) is tuple for lot in found))

    def test_bad_web(self):
        for function in (pins, bound, bound_lot):
            for wrong in STRANGE:
                self.assertIs(error_of(function, wrong)[0], BadWeb)
            self.assertEqual(error_of(function, ((True,), ())), (BadWeb, {"part": "tops"}))


class Bound(unittest.TestCase):
    def test_document(self):
        self.assertEqual([bound(EXAMPLE), bound_lot(EXAMPLE)], [3, (0,)])

    def test_without_even_rings(self):
        for web in (CHAIN, CHASE, ((3,), ()), ((2,), ((0, 0, -1),))):
            self.assertEqual([bound(web), bound_lot(web)], [1, ()])

    def test_tops(self):
        for top in (1, 2, 3):
            web = ((top,), ((0, 0, 1),))
            self.assertEqual([bound(web), bound_lot(web)], [top + 1, (0,)])
            web = ((3, top, 3), ((0, 1, 1), (1, 2, 1), (2, 0, 1)))
            self.assertEqual([bound(web), bound_lot(web)], [top + 1, (1,) if top < 3 else (0,)])

    def test_more_folk_with_the_lesser_product(self):
        # 0, of a great top, has both rings; 1 and 2, of one each, have lesser ones: 2 * 2 against 4, then against 5.
        looks = ((0, 1, 1), (0, 2, 1), (1, 0, 1), (2, 0, 1))
        self.assertEqual([bound(((3, 1, 1), looks)), bound_lot(((3, 1, 1), looks))], [4, (0,)])
        # Three rings share 0 of top 3, two rings each share 1 of top 1: 1 and nobody else is not enough.
        web = ((3, 1, 3), ((0, 1, 1), (1, 0, 1), (1, 2, 1), (2, 1, 1)))
        self.assertEqual([bound(web), bound_lot(web)], [2, (1,)])

    def test_more_folk_with_a_lesser_product_than_any_pin(self):
        # The rings 0-1, 1-2, 2-3: of two folk the lots (0, 2), (1, 2), (1, 3) with the products 8, 16, 8.
        looks = ((0, 1, 1), (1, 0, 1), (1, 2, 1), (2, 1, 1), (2, 3, 1), (3, 2, 1))
        web = ((1, 3, 3, 1), looks)
        self.assertEqual(pins(web), ((0, 2), (1, 2), (1, 3)))
        self.assertEqual([bound(web), bound_lot(web)], [8, (0, 2)])
        # A star: 0 with top 3 is in each of three rings; the others have 2 * 2 * 2.
        star = tuple(sorted([(0, k, 1) for k in (1, 2, 3)] + [(k, 0, 1) for k in (1, 2, 3)]))
        self.assertEqual([bound(((3, 1, 1, 1), star)), bound_lot(((3, 1, 1, 1), star))], [4, (0,)])
        # The pins are (0, 1) alone, with 16; 0, 2, 3 have 4 * 2 * 2 too, 2, 3 and 4 the rings of 1 and of 0: 8.
        looks = ((0, 2, 1), (0, 3, 1), (1, 3, 1), (1, 4, 1), (2, 0, 1), (3, 0, 1), (3, 1, 1), (4, 1, 1))
        web = ((3, 3, 1, 1, 1), looks)
        self.assertEqual(pins(web), ((0, 1),))
        self.assertEqual([bound(web), bound_lot(web)], [8, (2, 3, 4)])

    def test_same_product(self):
        # Of the same product the lot of fewer folk, though the other one is lesser: (2,) and (0, 1).
        web = ((1, 1, 3), ((0, 2, 1), (1, 2, 1), (2, 0, 1), (2, 1, 1)))
        self.assertEqual([bound(web), bound_lot(web)], [4, (2,)])
        # Of as few the least one.
        web = ((2, 1, 1), ((0, 1, 1), (1, 2, 1), (2, 0, 1)))
        self.assertEqual([bound(web), bound_lot(web)], [2, (1,)])

    def test_by_word(self):
        for web in WEBS:
            lots = lots_by_word(len(web[0]), even_folk(web))
            least = min(moods_by_word(web, lot) for lot in lots)
            best = [lot for lot in lots if moods_by_word(web, lot) == least]
            with self.subTest(web=web):
                self.assertEqual(bound(web), least)
                self.assertEqual(bound_lot(web), fewest(best)[0])

    def test_truth_over_all_rules(self):
        webs = some_webs(33, 40, most_folk=2, most_top=2, most_of_one=1)
        webs += some_webs(34, 40, most_folk=3, most_top=1, most_looks=5, most_of_one=2)
        reached = set()
        for web in webs:
            most = max(len(settled_by_word(web, rules)) for rules in all_rules_by_word(web))
            self.assertLessEqual(most, bound(web))
            if most == bound(web):
                reached.add(most)
        self.assertTrue({1, 2, 3} <= reached, reached)


class Cuts(unittest.TestCase):
    def test_document(self):
        self.assertEqual(cuts(EXAMPLE, "odd"), ((),))
        self.assertEqual(cuts(EXAMPLE, "even"), ((0, 1), (0, 2)))
        self.assertEqual(cuts(EXAMPLE, "any"), ((0, 1), (0, 2)))

    def test_without_rings(self):
        for web in (CHAIN, ((1,), ()), ((1, 1, 1), ())):
            self.assertEqual([cuts(web, word) for word in ("odd", "even", "any")], [((),)] * 3)

    def test_kinds(self):
        # The odd ring 0-1, the even ring 1-2, and 2 who spites themselves.
        web = ((1, 1, 1), ((0, 1, 1), (1, 0, -1), (1, 2, 1), (2, 1, 1), (2, 2, -1)))
        self.assertEqual(cuts(web, "odd"), ((0, 4), (1, 4)))
        self.assertEqual(cuts(web, "even"), ((2,), (3,)))
        self.assertEqual(cuts(web, "any"), ((0, 2, 4), (0, 3, 4), (1, 2, 4), (1, 3, 4)))
        self.assertEqual([cuts(CHASE, word) for word in ("odd", "even", "any")], [((0,), (1,)), ((),), ((0,), (1,))])
        self.assertEqual([cuts(FRIENDS, word) for word in ("odd", "even", "any")], [((),), ((0,), (1,)), ((0,), (1,))])

    def test_all_looks(self):
        web = ((1,) * 6, tuple((folk, folk, (-1) ** folk) for folk in range(6)))
        self.assertEqual(cuts(web, "any"), ((0, 1, 2, 3, 4, 5),))
        self.assertEqual(cuts(web, "odd"), ((1, 3, 5),))
        self.assertEqual(cuts(web, "even"), ((0, 2, 4),))

    def test_by_word(self):
        self.assertEqual(len(FOURTEEN[1]), 14)
        webs = [web for web in some_webs(35, 150) + some_webs(36, 60, most_folk=3) if len(web[1]) < 10]
        for web in webs + [EXAMPLE, MIXED, SELF, LONG, FOURTEEN]:
            found = rings_by_word(web)
            even = [ring for ring in found if is_even_by_word(web, ring)]
            odd = [ring for ring in found if ring not in even]
            for word, groups in (("odd", odd), ("even", even), ("any", found)):
                with self.subTest(web=web, word=word):
                    answer = cuts(web, word)
                    self.assertEqual(answer, fewest(lots_by_word(len(web[1]), groups)))
                    self.assertIs(type(answer), tuple)

    def test_bad_word(self):
        others = ["Odd", "odd ", " even", "ODD", "all", "an", "anyone", "none", "o", b"odd", ("odd",), ["any"], {"odd": 1}]
        for wrong in STRANGE + others + [0, 1, 2]:
            with self.subTest(wrong=wrong):
                self.assertEqual(error_of(cuts, EXAMPLE, wrong), (BadWord, {}))
                self.assertEqual(error_of(cuts, ((1,), ()), wrong), (BadWord, {}))

    def test_bad_web_first(self):
        for wrong in STRANGE:
            for word in ("odd", "even", "any", "none", None, []):
                self.assertIs(error_of(cuts, wrong, word)[0], BadWeb)


if __name__ == "__main__":
    unittest.main()
