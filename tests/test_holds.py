"""Folk who are held at their moods, and the states that are left then."""

import unittest
from itertools import combinations, product
from random import Random

from helper import (
    CHASE, CROWD, FRIENDS, LONG, LONG_RULES, MIXED, MIXED_RULES, SELF, SELF_RULES, STRANGE, all_rules_by_word, around, digits,
    error_of, rings_by_word, settled_by_word, some_rules, some_webs, states_by_word, told_by_word,
)
from likespite.errors import BadHeld, BadLot, BadRules, BadState, BadWeb
from likespite.holds import deciders, decides, held_states, holders
from likespite.rules import settled

COPY = ((0, 1), (0, 1))
CIRCLE = ((1, 0), (0, 1))
NO_HELD = [
    None, True, False, 0, 1, -1, "", "0 1", [], [(0, 1)], {}, {0: 1}, (0,), (0, 1), ((),), ((0,),), ((0, 1, 0),),
    ([0, 1],), ([0],), (None,), ("01",), ((True, 0),), ((False, 0),), ((0, True),), ((0, False),), ((None, 0),),
    ((0, None),), (("0", 0),), ((0, "0"),), ((2, 0),), ((-1, 0),), ((0, 2),), ((0, -1),), ((0, 10**30),),
    ((10**30, 0),), ((1, 0), (0, 0)), ((0, 0), (0, 0)), ((0, 0), (0, 1)), ((0, 1), (0, 0)), ((1, 1), (1, 1)),
    ((0, 0), (1, 0), (1, 1)), ((0, 0), (1, 2)), ((0, 0), [1, 0]), ((0, 0), None), ((0, 0), (1, 0), (2, 0)),
    ((0, (1,)),), (((0,), 1),), ((0, []),), (({}, 0),), ({0: 1},), ({},), ([],), ((0, 0), (1,)), (((0, 1),),),
]
NO_LOTS = [
    None, True, False, 0, 1, -1, "", "0", [], [0], [0, 1], {}, {0: 1}, (1, 0), (0, 0), (1, 1), (True,), (False,), (0, True),
    (None,), (-1,), (2,), (0, 2), (0, 1, 2), ("0",), ((0,),), ((),), ([0],), (10**30,), (0, [1]), ({},),
]


def lots_by_word(web):
    """All lots of folk, those of few first, of as many each in ascending sequence."""
    many = len(web[0])
    return [lot for size in range(many + 1) for lot in combinations(range(many), size)]


def left_by_word(web, rules, held):
    """The states that are left, ascending."""
    moods = dict(held)
    return tuple(
        state for state in states_by_word(web)
        if all(
            state[folk] == (moods[folk] if folk in moods else told_by_word(web, rules, state, folk))
            for folk in range(len(state))
        )
    )


def least_by_word(lots):
    """Those of the lots that are of as few as can be, ascending."""
    lots = list(lots)
    return tuple(sorted(lot for lot in lots if len(lot) == min(len(other) for other in lots)))


def deciding_by_word(web):
    """The lots of folk that have somebody of each ring."""
    lookers = [{web[1][number][1] for number in ring} for ring in rings_by_word(web)]
    return [lot for lot in lots_by_word(web) if all(group & set(lot) for group in lookers)]


def all_held(web):
    """All that may be held: for each lot all moods."""
    return [
        tuple(zip(lot, moods))
        for lot in lots_by_word(web)
        for moods in product(*[range(web[0][folk] + 1) for folk in lot])
    ]


class Examples(unittest.TestCase):
    def test_document(self):
        self.assertEqual(held_states(FRIENDS, COPY, ((0, 1),)), ((1, 1),))
        self.assertEqual(holders(FRIENDS, COPY, (0, 1)), ((0, 1),))
        self.assertEqual(holders(FRIENDS, COPY, (1, 1)), ((0,), (1,)))
        self.assertIs(decides(FRIENDS, (1,)), True)
        self.assertEqual(deciders(FRIENDS), ((0,), (1,)))
        self.assertEqual(error_of(held_states, FRIENDS, COPY, ((0, 2),)), (BadHeld, {}))

    def test_by_name(self):
        self.assertEqual(held_states(held=(), rules=COPY, web=FRIENDS), ((0, 0), (1, 1)))
        self.assertEqual(holders(state=(0, 0), rules=COPY, web=FRIENDS), ((0,), (1,)))
        self.assertIs(decides(lot=(), web=FRIENDS), False)
        self.assertEqual(deciders(web=((1,), ())), ((),))


class HeldStates(unittest.TestCase):
    def test_nobody(self):
        for web, rules in ((FRIENDS, COPY), (CHASE, CIRCLE), (MIXED, MIXED_RULES), (SELF, SELF_RULES)):
            self.assertEqual(held_states(web, rules, ()), settled_by_word(web, rules))
        self.assertEqual(held_states(LONG, LONG_RULES, ()), settled(LONG, LONG_RULES))

    def test_all(self):
        for state in states_by_word(MIXED):
            self.assertEqual(held_states(MIXED, MIXED_RULES, tuple(enumerate(state))), (state,))

    def test_moods_that_tables_do_not_tell(self):
        # Nobody's table tells the mood at which 1 is held; 0 goes by it all the same.
        self.assertEqual(held_states(FRIENDS, ((0, 1), (0, 0)), ((1, 1),)), ((1, 1),))
        self.assertEqual(held_states(FRIENDS, ((0, 0), (0, 0)), ((1, 1),)), ((0, 1),))
        self.assertEqual(held_states(((3,), ()), ((0,),), ((0, 2),)), ((2,),))

    def test_none_one_several(self):
        # 0 and 1 like one another, 2 spites themselves.
        web, rules = ((1, 1, 1), ((0, 1, 1), (1, 0, 1), (2, 2, -1))), digits("01 01 10")
        self.assertEqual(held_states(web, rules, ()), ())
        self.assertEqual(held_states(web, rules, ((0, 1),)), ())
        self.assertEqual(held_states(web, rules, ((0, 0), (1, 1))), ())
        self.assertEqual(held_states(web, rules, ((2, 1),)), ((0, 0, 1), (1, 1, 1)))
        self.assertEqual(held_states(web, rules, ((1, 1), (2, 0))), ((1, 1, 0),))

    def test_oneself(self):
        # Held, one stays whatever their own look tells.
        web, rules = ((2,), ((0, 0, -1),)), ((2, 1, 0),)
        for mood in range(3):
            self.assertEqual(held_states(web, rules, ((0, mood),)), ((mood,),))

    def test_by_word(self):
        random = Random(91)
        for web in some_webs(92, 60, most_folk=3, most_of_one=3) + [FRIENDS, CHASE, MIXED, SELF]:
            rules = some_rules(random, web)
            for held in all_held(web):
                found = held_states(web, rules, held)
                self.assertEqual(found, left_by_word(web, rules, held), (web, rules, held))
                self.assertIs(type(found), tuple)
                self.assertTrue(all(type(state) is tuple for state in found))

    def test_bad_held(self):
        for wrong in NO_HELD:
            with self.subTest(wrong=wrong):
                self.assertEqual(error_of(held_states, FRIENDS, COPY, wrong), (BadHeld, {}))

    def test_moods_of_each(self):
        web, rules = ((1, 2, 3), ()), digits("0 0 0")
        for folk, top in enumerate((1, 2, 3)):
            self.assertEqual(held_states(web, rules, ((folk, top),))[0][folk], top)
            self.assertEqual(error_of(held_states, web, rules, ((folk, top + 1),)), (BadHeld, {}))
        self.assertEqual(error_of(held_states, web, rules, ((3, 0),)), (BadHeld, {}))
        self.assertEqual(held_states(web, rules, ((0, 1), (2, 3))), ((1, 0, 3),))

    def test_sequence_of_errors(self):
        for wrong in STRANGE:
            self.assertIs(error_of(held_states, wrong, None, None)[0], BadWeb)
            self.assertIs(error_of(held_states, FRIENDS, wrong, None)[0], BadRules)
            expected = None if wrong == () and type(wrong) is tuple else (BadHeld, {})
            self.assertEqual(error_of(held_states, FRIENDS, COPY, wrong), expected)
        self.assertEqual(error_of(held_states, FRIENDS, ((0, 1), (1, 0)), ((0, 2),)), (BadRules, {"folk": 1}))


class Holders(unittest.TestCase):
    def test_the_only_settled_state(self):
        self.assertEqual(holders(CHASE, digits("11 01"), (1, 1)), ((),))
        self.assertEqual(holders(((3, 2), ()), digits("2 1"), (2, 1)), ((),))

    def test_not_settled(self):
        # Those who are uneasy must be held; the others follow.
        self.assertEqual(holders(CHASE, digits("11 01"), (0, 1)), ((0, 1),))
        self.assertEqual(holders(CHASE, digits("11 01"), (0, 0)), ((0,),))
        self.assertEqual(holders(((3, 2), ()), digits("2 1"), (2, 0)), ((1,),))
        self.assertEqual(holders(((3, 2), ()), digits("2 1"), (0, 0)), ((0, 1),))

    def test_several_lots(self):
        # Two pairs who like one another.
        web = ((1, 1, 1, 1), ((0, 1, 1), (1, 0, 1), (2, 3, 1), (3, 2, 1)))
        rules = digits("01 01 01 01")
        self.assertEqual(holders(web, rules, (0, 0, 1, 1)), ((0, 2), (0, 3), (1, 2), (1, 3)))
        self.assertEqual(holders(web, rules, (0, 1, 1, 1)), ((0, 1, 2), (0, 1, 3)))

    def test_settled_but_not_left_alone(self):
        # Some settled states need nobody of each ring: 1 goes by 0 alone at 0.
        web, rules = ((1, 1), ((0, 0, 1), (0, 1, 1), (1, 1, 1))), digits("01 0011")
        for state in states_by_word(web):
            self.assertEqual(holders(web, rules, state), least_by_word(
                lot for lot in lots_by_word(web)
                if left_by_word(web, rules, [(folk, state[folk]) for folk in lot]) == (state,)
            ))

    def test_by_word(self):
        random = Random(93)
        sizes = set()
        for web in some_webs(94, 50, most_folk=3, most_of_one=3) + [FRIENDS, CHASE, MIXED, SELF]:
            rules = some_rules(random, web)
            for state in states_by_word(web):
                found = holders(web, rules, state)
                fits = [
                    lot for lot in lots_by_word(web)
                    if left_by_word(web, rules, [(folk, state[folk]) for folk in lot]) == (state,)
                ]
                self.assertEqual(found, least_by_word(fits), (web, rules, state))
                self.assertTrue(all(type(lot) is tuple for lot in found))
                sizes.add(len(found[0]))
        self.assertEqual(sizes, {0, 1, 2, 3})

    def test_six(self):
        state = settled(LONG, LONG_RULES)[0]
        self.assertEqual(holders(LONG, LONG_RULES, state), ((),))
        other = state[:5] + ((state[5] + 1) % 4,)
        found = holders(LONG, LONG_RULES, other)
        for lot in found:
            self.assertEqual(held_states(LONG, LONG_RULES, tuple((folk, other[folk]) for folk in lot)), (other,))
        uneasy = {folk for folk in range(6) if told_by_word(LONG, LONG_RULES, other, folk) != other[folk]}
        self.assertTrue(all(uneasy <= set(lot) for lot in found))

    def test_sequence_of_errors(self):
        for wrong in STRANGE:
            self.assertIs(error_of(holders, wrong, None, None)[0], BadWeb)
            self.assertIs(error_of(holders, FRIENDS, wrong, None)[0], BadRules)
            self.assertEqual(error_of(holders, FRIENDS, COPY, wrong), (BadState, {}))
        for wrong in ((0, 2), (0, True), (0,), (0, 0, 0), [0, 0]):
            self.assertEqual(error_of(holders, FRIENDS, COPY, wrong), (BadState, {}))


class Decides(unittest.TestCase):
    def test_without_rings(self):
        for web in (((1,), ()), ((1, 3, 1), ((0, 1, 1), (0, 2, -1), (1, 2, 1)))):
            for lot in lots_by_word(web):
                self.assertIs(decides(web, lot), True)
            self.assertEqual(deciders(web), ((),))

    def test_odd_rings_too(self):
        self.assertIs(decides(CHASE, ()), False)
        self.assertIs(decides(CHASE, (0,)), True)
        self.assertEqual(deciders(CHASE), ((0,), (1,)))
        self.assertIs(decides(((3,), ((0, 0, -1),)), ()), False)
        self.assertEqual(deciders(((3,), ((0, 0, -1),))), ((0,),))

    def test_around(self):
        for many in range(1, 7):
            for signs in ((1,) * many, (-1,) * many):
                web = around(signs, (2,) * many)
                self.assertIs(decides(web, ()), False)
                self.assertEqual(deciders(web), tuple((folk,) for folk in range(many)))

    def test_by_word(self):
        for web in some_webs(95, 150) + [CROWD, LONG, MIXED, SELF]:
            deciding = deciding_by_word(web)
            for lot in lots_by_word(web):
                self.assertIs(decides(web, lot), lot in deciding)
            found = deciders(web)
            self.assertEqual(found, least_by_word(deciding))
            self.assertTrue(all(type(lot) is tuple for lot in found))

    def test_crowd(self):
        self.assertEqual((len(CROWD[0]), len(CROWD[1])), (6, 14))
        found = deciders(CROWD)
        self.assertEqual(found, least_by_word(deciding_by_word(CROWD)))
        self.assertEqual(found, ((0, 3, 5), (0, 4, 5), (1, 4, 5)))

    def test_truth(self):
        """Over all rules and all moods at which a lot is held just one state is left, or there are some where not."""
        webs = [web for web in some_webs(96, 60, most_folk=3, most_top=1, most_of_one=2) if len(web[1]) < 5]
        webs += [FRIENDS, CHASE, ((2,), ((0, 0, 1),)), ((3,), ((0, 0, -1),)), ((2, 1), ((0, 0, 1), (0, 1, -1), (1, 0, 1)))]
        tried = {True: 0, False: 0}
        for web in webs:
            all_rules = all_rules_by_word(web)
            for lot in lots_by_word(web):
                held_by_lot = [held for held in all_held(web) if tuple(folk for folk, _ in held) == lot]
                truth = all(len(left_by_word(web, rules, held)) == 1 for rules in all_rules for held in held_by_lot)
                self.assertIs(decides(web, lot), truth, (web, lot))
                tried[truth] += 1
        self.assertGreater(min(tried.values()), 30, tried)

    def test_bad_lot(self):
        for wrong in NO_LOTS:
            with self.subTest(wrong=wrong):
                self.assertEqual(error_of(decides, FRIENDS, wrong), (BadLot, {}))

    def test_errors(self):
        for wrong in STRANGE:
            self.assertIs(error_of(decides, wrong, None)[0], BadWeb)
            self.assertIs(error_of(deciders, wrong)[0], BadWeb)
        for many in range(1, 7):
            self.assertIs(decides(((1,) * many, ()), tuple(range(many))), True)
            self.assertEqual(error_of(decides, ((1,) * many, ()), (many,)), (BadLot, {}))


if __name__ == "__main__":
    unittest.main()
