"""The moods of some folk turned over."""

import unittest
from itertools import combinations
from random import Random

from helper import (
    CHASE, FRIENDS, MIXED, MIXED_RULES, SELF, SELF_RULES, STRANGE, digits, error_of, is_even_by_word, rings_by_word,
    settled_by_word, some_rules, some_webs, states_by_word, told_by_word,
)
from likespite.errors import BadLot, BadRules, BadState, BadWeb
from likespite.turns import turned, turned_rules, turned_state
from likespite.webs import looked_at

COPY = ((0, 1), (0, 1))
NO_LOTS = [
    None, True, False, 0, 1, -1, "", "0", "01", [], [0], [0, 1], {}, {0: 1}, (1, 0), (0, 0), (1, 1), (0, 1, 1),
    (True,), (False,), (0, True), (None,), (-1,), (-1, 0), (2,), (0, 2), (0, 1, 2), ("0",), ((0,),), ((),), ([0],),
    (0, None), (10**30,), (-(10**30),), (0, [1]), ({},), ("0", "1"), (None, None),
]


def lots_of(web):
    many = len(web[0])
    return [lot for size in range(many + 1) for lot in combinations(range(many), size)]


def state_turned_by_word(web, state, lot):
    return tuple(web[0][folk] - mood if folk in lot else mood for folk, mood in enumerate(state))


class Turned(unittest.TestCase):
    def test_document(self):
        self.assertEqual(turned(FRIENDS, (1,)), ((1, 1), ((0, 1, -1), (1, 0, -1))))
        self.assertEqual(turned_rules(FRIENDS, COPY, (1,)), ((1, 0), (1, 0)))
        self.assertEqual(turned_state(FRIENDS, (1, 1), (1,)), (1, 0))

    def test_by_name(self):
        self.assertEqual(turned(lot=(0,), web=CHASE), ((1, 1), ((0, 1, -1), (1, 0, 1))))
        self.assertEqual(turned_state(lot=(0,), state=(0, 1), web=CHASE), (1, 1))
        self.assertEqual(turned_rules(lot=(), rules=COPY, web=FRIENDS), COPY)

    def test_nobody_and_all(self):
        for web in some_webs(41, 40) + [FRIENDS, CHASE, MIXED, SELF]:
            self.assertEqual(turned(web, ()), web)
            self.assertEqual(turned(web, tuple(range(len(web[0])))), web)

    def test_signs(self):
        self.assertEqual(turned(MIXED, (0,)), (MIXED[0], ((0, 1, -1), (0, 2, 1), (1, 0, -1), (1, 2, 1), (2, 2, 1))))
        self.assertEqual(turned(MIXED, (1, 2)), (MIXED[0], ((0, 1, -1), (0, 2, 1), (1, 0, -1), (1, 2, 1), (2, 2, 1))))
        self.assertEqual(turned(MIXED, (0, 2)), (MIXED[0], ((0, 1, -1), (0, 2, -1), (1, 0, -1), (1, 2, -1), (2, 2, 1))))

    def test_oneself(self):
        for sign in (1, -1):
            web = ((2,), ((0, 0, sign),))
            self.assertEqual(turned(web, (0,)), web)

    def test_by_word(self):
        for web in some_webs(42, 40):
            tops, looks = web
            for lot in lots_of(web):
                found = turned(web, lot)
                self.assertEqual(found, (tops, tuple(
                    (one, other, -sign if len({one, other} & set(lot)) == 1 and one != other else sign)
                    for one, other, sign in looks
                )))
                self.assertEqual(looked_at(found, 0), looked_at(web, 0))
                self.assertEqual(turned(found, lot), web)
                for ring in rings_by_word(web):
                    self.assertEqual(is_even_by_word(found, ring), is_even_by_word(web, ring))


class TurnedState(unittest.TestCase):
    def test_tops(self):
        web = ((1, 2, 3), ())
        self.assertEqual(turned_state(web, (0, 0, 0), (0, 1, 2)), (1, 2, 3))
        self.assertEqual(turned_state(web, (0, 2, 1), (1, 2)), (0, 0, 2))
        self.assertEqual(turned_state(web, (1, 1, 3), ()), (1, 1, 3))
        self.assertEqual(turned_state(web, (1, 1, 3), (0,)), (0, 1, 3))

    def test_by_word(self):
        for web in (MIXED, SELF, ((3, 3), ()), CHASE):
            for lot in lots_of(web):
                for state in states_by_word(web):
                    found = turned_state(web, state, lot)
                    self.assertEqual(found, state_turned_by_word(web, state, lot))
                    self.assertIs(type(found), tuple)
                    self.assertEqual(turned_state(web, found, lot), state)


class TurnedRules(unittest.TestCase):
    def test_sequence_of_rows(self):
        # The row of 0 and 1 is (0, 0), (0, 1), (0, 2), (1, 0), (1, 1), (1, 2), who are looked at by 2.
        web = ((1, 2, 3), ((0, 2, 1), (1, 2, 1)))
        rules = digits("1 2 001123")
        self.assertEqual(turned_rules(web, rules, (0,)), digits("0 2 123001"))
        self.assertEqual(turned_rules(web, rules, (1,)), digits("1 0 100321"))
        self.assertEqual(turned_rules(web, rules, (2,)), digits("1 2 332210"))
        self.assertEqual(turned_rules(web, rules, (0, 1, 2)), digits("0 0 012233"))

    def assert_turned(self, web, rules, lot):
        web_turned = turned(web, lot)
        found = turned_rules(web, rules, lot)
        for state in states_by_word(web):
            told = tuple(told_by_word(web, rules, state, folk) for folk in range(len(state)))
            state_turned = state_turned_by_word(web, state, lot)
            told_then = tuple(told_by_word(web_turned, found, state_turned, folk) for folk in range(len(state)))
            self.assertEqual(told_then, state_turned_by_word(web, told, lot), (web, rules, lot, state))
        # They are rules of the turned web, turned again they are what they were.
        self.assertEqual(turned_rules(web_turned, found, lot), rules)
        settled_then = {state_turned_by_word(web, state, lot) for state in settled_by_word(web, rules)}
        self.assertEqual(set(settled_by_word(web_turned, found)), settled_then)

    def test_by_word(self):
        random = Random(43)
        for lot in lots_of(MIXED):
            self.assert_turned(MIXED, MIXED_RULES, lot)
            self.assert_turned(SELF, SELF_RULES, lot)
        for web in some_webs(44, 40, most_folk=4):
            rules = some_rules(random, web)
            self.assert_turned(web, rules, random.choice(lots_of(web)))
            self.assert_turned(web, rules, tuple(range(len(web[0]))))


class Wrong(unittest.TestCase):
    def test_bad_lot(self):
        for wrong in NO_LOTS:
            with self.subTest(wrong=wrong):
                self.assertEqual(error_of(turned, FRIENDS, wrong), (BadLot, {}))
                self.assertEqual(error_of(turned_state, FRIENDS, (0, 1), wrong), (BadLot, {}))
                self.assertEqual(error_of(turned_rules, FRIENDS, COPY, wrong), (BadLot, {}))

    def test_lots_of_this_web(self):
        for many in range(1, 7):
            web = ((1,) * many, ())
            self.assertIsNone(error_of(turned, web, (many - 1,)))
            self.assertEqual(error_of(turned, web, (many,)), (BadLot, {}))

    def test_sequence(self):
        for wrong in STRANGE:
            self.assertIs(error_of(turned, wrong, None)[0], BadWeb)
            self.assertIs(error_of(turned_state, wrong, None, None)[0], BadWeb)
            self.assertIs(error_of(turned_rules, wrong, None, None)[0], BadWeb)
            self.assertEqual(error_of(turned_state, FRIENDS, wrong, None), (BadState, {}))
            self.assertEqual(error_of(turned_rules, FRIENDS, wrong, None)[0], BadRules)
        self.assertEqual(error_of(turned_rules, FRIENDS, ((0, 1), (1, 0)), (1, 0)), (BadRules, {"folk": 1}))


if __name__ == "__main__":
    unittest.main()
