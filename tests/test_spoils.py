"""Rules with two settled states by an even ring, and without any by an odd one."""

import unittest

from helper import (
    CHASE, FRIENDS, LONG, MIXED, ROUNDS, SELF, STRANGE, are_rules_by_word, error_of, is_even_by_word, rings_by_word,
    settled_by_word, some_webs,
)
from likespite.errors import BadWeb, NoEven, NoOdd
from likespite.rules import settled
from likespite.spoils import mute, twofold

FOES = ((1, 1), ((0, 1, -1), (1, 0, -1)))
WEBS = ROUNDS + some_webs(17, 150) + some_webs(18, 60, most_folk=3) + [FRIENDS, CHASE, MIXED, SELF, LONG, FOES]


class Spoils(unittest.TestCase):
    def test_document(self):
        self.assertEqual(settled(CHASE, mute(CHASE)), ())
        self.assertGreater(len(settled(FOES, twofold(FOES))), 1)
        self.assertEqual(error_of(twofold, CHASE), (NoEven, {}))
        self.assertEqual(error_of(mute, FOES), (NoOdd, {}))

    def test_oneself(self):
        for top in (1, 2, 3):
            web = ((top,), ((0, 0, 1),))
            self.assertGreaterEqual(len(settled(web, twofold(web))), 2)
            web = ((top,), ((0, 0, -1),))
            self.assertEqual(settled(web, mute(web)), ())

    def test_without_rings(self):
        for web in (((1,), ()), ((3, 3), ((0, 1, 1),)), ((1,) * 6, tuple((one, one + 1, -1) for one in range(5)))):
            self.assertEqual(error_of(twofold, web), (NoEven, {}))
            self.assertEqual(error_of(mute, web), (NoOdd, {}))

    def test_by_word(self):
        tried = {"even": 0, "odd": 0, "no even": 0, "no odd": 0}
        for web in WEBS:
            kinds = {is_even_by_word(web, ring) for ring in rings_by_word(web)}
            with self.subTest(web=web):
                if True in kinds:
                    tried["even"] += 1
                    rules = twofold(web)
                    self.assertTrue(are_rules_by_word(web, rules))
                    self.assertGreaterEqual(len(settled_by_word(web, rules)), 2)
                else:
                    tried["no even"] += 1
                    self.assertEqual(error_of(twofold, web), (NoEven, {}))
                if False in kinds:
                    tried["odd"] += 1
                    rules = mute(web)
                    self.assertTrue(are_rules_by_word(web, rules))
                    self.assertEqual(settled_by_word(web, rules), ())
                else:
                    tried["no odd"] += 1
                    self.assertEqual(error_of(mute, web), (NoOdd, {}))
        self.assertGreater(min(tried.values()), 40, tried)

    def test_bad_web(self):
        for function in (twofold, mute):
            for wrong in STRANGE:
                self.assertIs(error_of(function, wrong)[0], BadWeb)
            self.assertEqual(error_of(function, ((4,), ())), (BadWeb, {"part": "tops"}))
            self.assertEqual(error_of(function, ((1,), ((0, 0, 2),))), (BadWeb, {"part": "looks"}))


if __name__ == "__main__":
    unittest.main()
