"""Liking exchanged for spite, and how many rings go through each look."""

import unittest
from itertools import combinations
from random import Random

from helper import (
    CHASE, CROWD, FRIENDS, LONG, MIXED, SELF, STRANGE, around, error_of, is_even_by_word, rings_by_word, some_webs,
)
from likespite.errors import BadLot, BadWeb, BadWord
from likespite.rings import rings
from likespite.signs import exchanged, exchanges, rings_through

KNOT = ((1, 1), ((0, 0, 1), (0, 1, 1), (1, 0, 1)))
WITHOUT_RINGS = (((1,), ()), ((3, 2), ()), ((1, 3, 1), ((0, 1, 1), (0, 2, -1), (1, 2, 1))))
# FRIENDS has two looks, so there is no look 2.
NO_LOTS = [
    None, True, False, 0, 1, -1, "", "0", "01", [], [0], [0, 1], {}, {0: 1}, (1, 0), (0, 0), (1, 1), (0, 1, 1), (True,),
    (False,), (0, True), (None,), (-1,), (-1, 0), (2,), (0, 2), (0, 1, 2), ("0",), ((0,),), ((),), ([0],), (10**30,),
    (0, [1]), ({},), (0, None), ((0, 1, 1),), ((0, 1),),
]
NO_WORDS = [
    "any", "Odd", "ODD", "Even", " odd", "odd ", "odd\n", "", "o", "oddeven", "odd even", "even odd", None, True, False, 0, 1,
    -1, 2, (), ("odd",), ("odd", "even"), [], ["odd"], {}, {"odd": 1}, {"even": "odd"}, 10**30,
]


def lots_by_word(web):
    """All lots of looks."""
    many = len(web[1])
    return [lot for size in range(many + 1) for lot in combinations(range(many), size)]


def exchanged_by_word(web, lot):
    looks = [list(look) for look in web[1]]
    for number in lot:
        looks[number][2] *= -1
    return web[0], tuple(tuple(look) for look in looks)


def exchanges_by_word(web, word):
    """The lots by whose exchange all rings get of a kind, as few looks as can be; all lots are tried."""
    found_rings = rings_by_word(web)
    fits = []
    for lot in lots_by_word(web):
        if fits and len(lot) > len(fits[0]):
            break
        later = exchanged_by_word(web, lot)
        if all(is_even_by_word(later, ring) == (word == "even") for ring in found_rings):
            fits.append(lot)
    return tuple(sorted(fits))


class Examples(unittest.TestCase):
    def test_document(self):
        self.assertEqual(exchanged(KNOT, (0,)), ((1, 1), ((0, 0, -1), (0, 1, 1), (1, 0, 1))))
        self.assertEqual(exchanges(KNOT, "odd"), ((0, 1), (0, 2)))
        self.assertEqual(exchanges(KNOT, "even"), ((),))
        self.assertEqual(rings_through(KNOT), ((1, 0), (1, 0), (1, 0)))

    def test_by_name(self):
        self.assertEqual(exchanged(lot=(1,), web=FRIENDS), ((1, 1), ((0, 1, 1), (1, 0, -1))))
        self.assertEqual(exchanges(word="odd", web=FRIENDS), ((0,), (1,)))
        self.assertEqual(rings_through(web=((1,), ())), ())


class Exchanged(unittest.TestCase):
    def test_none_one_all(self):
        self.assertEqual(exchanged(MIXED, ()), MIXED)
        self.assertEqual(exchanged(MIXED, (1,)), (MIXED[0], ((0, 1, 1), (0, 2, 1), (1, 0, 1), (1, 2, 1), (2, 2, 1))))
        self.assertEqual(exchanged(MIXED, (4,)), (MIXED[0], ((0, 1, 1), (0, 2, -1), (1, 0, 1), (1, 2, 1), (2, 2, -1))))
        self.assertEqual(exchanged(MIXED, (0, 1, 2, 3, 4)), (
            MIXED[0], ((0, 1, -1), (0, 2, 1), (1, 0, -1), (1, 2, -1), (2, 2, -1)),
        ))
        self.assertEqual(exchanged(((1,), ()), ()), ((1,), ()))

    def test_by_word(self):
        random = Random(121)
        for web in some_webs(122, 80) + [CROWD, LONG, MIXED, SELF, KNOT]:
            lots = lots_by_word(web)
            for lot in random.sample(lots, min(20, len(lots))) + [(), tuple(range(len(web[1])))]:
                found = exchanged(web, lot)
                self.assertEqual(found, exchanged_by_word(web, lot))
                self.assertTrue(type(found) is tuple and type(found[1]) is tuple)
                self.assertTrue(all(type(look) is tuple for look in found[1]))
                self.assertEqual(exchanged(found, lot), web)
                self.assertEqual(rings(found), rings(web))

    def test_bad_lot(self):
        for wrong in NO_LOTS:
            with self.subTest(wrong=wrong):
                self.assertEqual(error_of(exchanged, FRIENDS, wrong), (BadLot, {}))

    def test_numbers_of_looks_not_of_folk(self):
        self.assertEqual(error_of(exchanged, ((1,) * 6, ((0, 1, 1),)), (1,)), (BadLot, {}))
        self.assertEqual(error_of(exchanged, ((1,) * 6, ()), (0,)), (BadLot, {}))
        self.assertIsNone(error_of(exchanged, CROWD, (13,)))
        self.assertEqual(error_of(exchanged, CROWD, (14,)), (BadLot, {}))
        self.assertEqual(error_of(exchanged, CROWD, (13, 14)), (BadLot, {}))


class Exchanges(unittest.TestCase):
    def test_all_of_that_kind_already(self):
        self.assertEqual(exchanges(FRIENDS, "even"), ((),))
        self.assertEqual(exchanges(CHASE, "odd"), ((),))

    def test_without_rings(self):
        for web in WITHOUT_RINGS:
            self.assertEqual(exchanges(web, "odd"), ((),))
            self.assertEqual(exchanges(web, "even"), ((),))

    def test_several_lots(self):
        for many in range(1, 7):
            one_each = tuple((number,) for number in range(many))
            for signs in ((1,) * many, (-1,) * many):
                web = around(signs, (1,) * many)
                even = is_even_by_word(web, rings_by_word(web)[0])
                self.assertEqual(exchanges(web, "odd"), one_each if even else ((),))
                self.assertEqual(exchanges(web, "even"), ((),) if even else one_each)

    def test_none_at_all(self):
        # 0 and 1 and 2 all look at one another: two ways round, three back and forth; that can't all be odd.
        pairs = ((0, 1), (0, 2), (1, 0), (1, 2), (2, 0), (2, 1))
        for spites in ((), (0,), (1, 4), (0, 1, 2, 3, 4, 5)):
            web = ((1, 1, 1), tuple((*pair, -1 if place in spites else 1) for place, pair in enumerate(pairs)))
            self.assertEqual(exchanges(web, "odd"), ())
            self.assertEqual(exchanges_by_word(web, "odd"), ())
            self.assertNotEqual(exchanges(web, "even"), ())

    def test_even_by_all_spites(self):
        for web in some_webs(123, 60):
            spites = tuple(number for number, look in enumerate(web[1]) if look[2] == -1)
            self.assertTrue(all(is_even_by_word(exchanged(web, spites), ring) for ring in rings_by_word(web)))
            found = exchanges(web, "even")
            self.assertTrue(found)
            self.assertLessEqual(len(found[0]), len(spites))

    def test_by_word(self):
        none = 0
        for web in some_webs(124, 150, most_looks=9) + [KNOT, FRIENDS, CHASE, MIXED, SELF]:
            for word in ("odd", "even"):
                found = exchanges(web, word)
                with self.subTest(web=web, word=word):
                    self.assertEqual(found, exchanges_by_word(web, word))
                    self.assertTrue(type(found) is tuple and all(type(lot) is tuple for lot in found))
                none += not found
        self.assertGreater(none, 3)

    def test_fourteen_looks(self):
        self.assertEqual((len(CROWD[0]), len(CROWD[1])), (6, 14))
        for word in ("odd", "even"):
            self.assertEqual(exchanges(CROWD, word), exchanges_by_word(CROWD, word))
        # All rings of these can be of either kind, by several lots.
        pairs = [(one, one + 1) for one in range(5)] + [(one + 1, one) for one in range(5)] + [(k, k) for k in (0, 2, 3, 5)]
        web = ((2,) * 6, tuple(sorted((one, other, 1 if one < other else -1) for one, other in pairs)))
        self.assertEqual(len(web[1]), 14)
        for word in ("odd", "even"):
            found = exchanges(web, word)
            self.assertEqual(found, exchanges_by_word(web, word))
            self.assertTrue(found)

    def test_bad_word(self):
        for wrong in NO_WORDS:
            for web in (FRIENDS, CHASE, WITHOUT_RINGS[0]):
                with self.subTest(wrong=wrong):
                    self.assertEqual(error_of(exchanges, web, wrong), (BadWord, {}))


class RingsThrough(unittest.TestCase):
    def test_each_kind(self):
        # 0 and 1 chase one another and like or spite themselves, 2 looks at 1, 3 likes themselves.
        web = ((1,) * 4, ((0, 0, 1), (0, 1, 1), (1, 0, -1), (1, 1, -1), (1, 2, -1), (3, 3, 1)))
        self.assertEqual(rings_through(web), ((1, 0), (0, 1), (0, 1), (0, 1), (0, 0), (1, 0)))
        # Through the look of 1 at 0 goes a ring of each kind.
        web = ((1,) * 3, ((0, 1, 1), (1, 0, 1), (1, 2, -1), (2, 0, 1)))
        self.assertEqual(rings_through(web), ((1, 1), (1, 0), (0, 1), (0, 1)))

    def test_without_rings(self):
        for web in WITHOUT_RINGS:
            self.assertEqual(rings_through(web), ((0, 0),) * len(web[1]))

    def test_by_word(self):
        for web in some_webs(125, 150) + [CROWD, LONG, MIXED, SELF, KNOT]:
            found_rings = rings_by_word(web)
            found = rings_through(web)
            expected = []
            for number in range(len(web[1])):
                kinds = [is_even_by_word(web, ring) for ring in found_rings if number in ring]
                expected.append((kinds.count(True), kinds.count(False)))
            self.assertEqual(found, tuple(expected))
            self.assertTrue(type(found) is tuple and all(type(pair) is tuple for pair in found))


class Wrong(unittest.TestCase):
    def test_sequence(self):
        for wrong in STRANGE:
            self.assertIs(error_of(exchanged, wrong, None)[0], BadWeb)
            self.assertIs(error_of(exchanges, wrong, None)[0], BadWeb)
            self.assertIs(error_of(rings_through, wrong)[0], BadWeb)
            self.assertEqual(error_of(exchanges, FRIENDS, wrong), (BadWord, {}))
        self.assertEqual(error_of(exchanges, ((0,), ()), "any"), (BadWeb, {"part": "tops"}))
        self.assertEqual(error_of(exchanged, ((1,), ((0, 0, 0),)), (1,)), (BadWeb, {"part": "looks"}))


if __name__ == "__main__":
    unittest.main()
