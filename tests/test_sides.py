"""Sides, and the settled states that are come to from the low and from the high ends."""

import unittest
from random import Random

from helper import (
    CHASE, FRIENDS, MIXED, SELF, STRANGE, digits, error_of, is_even_by_word, rings_by_word, settled_by_word, some_rules,
    some_web, some_webs, told_by_word,
)
from likespite.errors import BadRules, BadWeb, HasOdd
from likespite.rings import parts
from likespite.rules import is_settled
from likespite.sides import high, low, sides

FOES = ((1, 1), ((0, 1, -1), (1, 0, -1)))
SPITE = ((1, 0), (1, 0))
COPY = ((0, 1), (0, 1))
# 0 and 2 like each other, 1 and 3 spite each other; 0 looks at 3, 1 at 4, who looks at nobody.
TWO_PAIRS = ((1, 1, 1, 1, 1), ((0, 2, 1), (1, 3, -1), (2, 0, 1), (3, 0, -1), (3, 1, -1), (4, 1, -1)))


def is_odd_by_word(web):
    return any(not is_even_by_word(web, ring) for ring in rings_by_word(web))


def without_odd_rings(seed, many, **limits):
    """Webs whose looks within a part have the signs of sides drawn by chance."""
    random = Random(seed)
    found = []
    for _ in range(many):
        tops, looks = some_web(random, **limits)
        part_of = {folk: part for part in parts((tops, looks)) for folk in part}
        drawn = [random.choice((1, -1)) for _ in tops]
        looks = tuple(
            (one, other, drawn[one] * drawn[other] if part_of[one] == part_of[other] else sign)
            for one, other, sign in looks
        )
        found.append((tops, looks))
    return found


def come_by_word(web, rules, own_sides, from_high):
    """What the document's words lead to, the parts taken as soon as all those that lead to them are done."""
    tops, looks = web
    state = [0 if (side == 1) != from_high else top for side, top in zip(own_sides, tops)]
    left = list(parts(web))
    while left:
        part = next(
            part for part in left
            if not any(other in part and one not in part and any(one in later for later in left)
                       for one, other, _ in looks)
        )
        left.remove(part)
        while True:
            later = [told_by_word(web, rules, state, folk) if folk in part else state[folk] for folk in range(len(tops))]
            if later == state:
                break
            for folk in part:
                away = later[folk] - state[folk]
                assert away * own_sides[folk] * (-1 if from_high else 1) >= 0
            state = later
    return tuple(state)


class Sides(unittest.TestCase):
    def test_document(self):
        self.assertEqual(sides(FOES), (1, -1))
        self.assertIsNone(sides(((1,), ((0, 0, -1),))))

    def test_both_signs(self):
        self.assertEqual(sides(FRIENDS), (1, 1))
        self.assertIsNone(sides(CHASE))
        self.assertEqual(sides(((1,), ((0, 0, 1),))), (1,))
        self.assertEqual(sides(((1, 2, 3), ())), (1, 1, 1))
        web = ((1,) * 4, ((0, 3, -1), (1, 0, -1), (2, 1, -1), (3, 2, -1)))
        self.assertEqual(sides(web), (1, -1, 1, -1))
        web = ((1,) * 4, ((0, 1, 1), (1, 2, -1), (2, 3, 1), (3, 0, -1)))
        self.assertEqual(sides(web), (1, 1, -1, -1))

    def test_each_part_for_itself(self):
        self.assertEqual(sides(TWO_PAIRS), (1, 1, 1, -1, 1))
        # Spite between parts gives nobody another side.
        self.assertEqual(sides(((1, 1, 1), ((0, 1, -1), (0, 2, 1), (1, 2, -1)))), (1, 1, 1))

    def test_one_odd_ring_is_enough(self):
        web = ((1,) * 4, ((0, 1, 1), (1, 0, 1), (2, 3, -1), (3, 2, -1), (3, 3, -1)))
        self.assertIsNone(sides(web))
        self.assertEqual(sides((web[0], web[1][:-1])), (1, 1, 1, -1))

    def test_by_word(self):
        kinds = {True: 0, False: 0}
        for web in some_webs(8, 120) + without_odd_rings(9, 120) + [FRIENDS, CHASE, MIXED, SELF]:
            found = sides(web)
            odd = is_odd_by_word(web)
            kinds[odd] += 1
            with self.subTest(web=web):
                if odd:
                    self.assertIsNone(found)
                    continue
                self.assertIs(type(found), tuple)
                self.assertEqual(len(found), len(web[0]))
                self.assertTrue(all(type(side) is int and side in (1, -1) for side in found))
                for part in parts(web):
                    self.assertEqual(found[part[0]], 1)
                    for one, other, sign in web[1]:
                        if one in part and other in part:
                            self.assertEqual(sign, found[one] * found[other])
        self.assertGreater(min(kinds.values()), 30)

    def test_bad_web(self):
        for wrong in STRANGE:
            self.assertIs(error_of(sides, wrong)[0], BadWeb)


class Ends(unittest.TestCase):
    def test_document(self):
        self.assertEqual(low(FOES, SPITE), (0, 1))
        self.assertEqual(high(FOES, SPITE), (1, 0))
        self.assertEqual(error_of(low, ((1,), ((0, 0, -1),)), ((1, 0),)), (HasOdd, {}))

    def test_by_name(self):
        self.assertEqual(low(rules=COPY, web=FRIENDS), (0, 0))
        self.assertEqual(high(rules=COPY, web=FRIENDS), (1, 1))

    def test_several_ticks(self):
        web = ((3,), ((0, 0, 1),))
        self.assertEqual([low(web, ((1, 2, 2, 2),)), high(web, ((1, 2, 2, 2),))], [(2,), (2,)])
        self.assertEqual([low(web, ((1, 1, 2, 2),)), high(web, ((1, 1, 2, 2),))], [(1,), (2,)])
        web = ((3, 3), ((0, 1, -1), (1, 0, -1)))
        self.assertEqual([low(web, digits("3210 3210")), high(web, digits("3210 3210"))], [(0, 3), (3, 0)])
        self.assertEqual([low(web, digits("2211 3211")), high(web, digits("2211 3211"))], [(1, 2), (2, 1)])

    def test_without_rings(self):
        web = ((1, 3, 1), ((0, 1, 1), (0, 2, -1), (1, 2, 1)))
        rules = digits("1 02 11110011")
        self.assertEqual(low(web, rules), (1, 2, 1))
        self.assertEqual(high(web, rules), (1, 2, 1))

    def test_parts_ahead_count(self):
        # 2, a part ahead of 0, has the greater number; 1 looks at 0 and at themselves.
        web = ((2, 2, 2), ((0, 0, 1), (0, 1, 1), (1, 1, 1), (2, 0, 1)))
        rules = digits("000011012 012012012 1")
        self.assertEqual([low(web, rules), high(web, rules)], [(0, 0, 1), (1, 2, 1)])
        rules = digits("000011012 011112222 1")
        self.assertEqual([low(web, rules), high(web, rules)], [(0, 0, 1), (1, 2, 1)])
        rules = digits("000011012 000111222 1")
        self.assertEqual([low(web, rules), high(web, rules)], [(0, 0, 1), (1, 1, 1)])

    def test_later_parts_begin_behind_those_ahead(self):
        # 0 looks at 1 with spite and at themselves with liking; 1 is at 1 in the end, from 0 or from 1.
        web = ((1, 1), ((0, 0, 1), (1, 0, -1)))
        self.assertEqual(low(web, digits("1011 1")), (0, 1))
        self.assertEqual(high(web, digits("1011 1")), (1, 1))
        # If all began at once, 1 being at 0 would draw 0 up to 1, where they would stay.
        self.assertEqual(low(web, digits("1011 0")), (1, 0))

    def test_by_word(self):
        random = Random(10)
        for web in without_odd_rings(11, 150) + without_odd_rings(12, 100, most_folk=3) + [FRIENDS, FOES, TWO_PAIRS]:
            own_sides = sides(web)
            for _ in range(3):
                rules = some_rules(random, web)
                ends = low(web, rules), high(web, rules)
                with self.subTest(web=web, rules=rules):
                    self.assertEqual(ends[0], come_by_word(web, rules, own_sides, False))
                    self.assertEqual(ends[1], come_by_word(web, rules, own_sides, True))
                    for state in ends:
                        self.assertIs(type(state), tuple)
                        self.assertTrue(is_settled(web, rules, state))

    def test_all_settled_states_lie_between_in_one_part(self):
        random = Random(13)
        tried = several = 0
        for web in without_odd_rings(14, 300, most_folk=4):
            if len(parts(web)) > 1:
                continue
            for _ in range(4):
                rules = some_rules(random, web)
                least, greatest = low(web, rules), high(web, rules)
                found = settled_by_word(web, rules)
                tried += 1
                several += len(found) > 1
                self.assertIn(least, found)
                self.assertIn(greatest, found)
                for state in found:
                    for mood, one, other in zip(state, least, greatest):
                        self.assertTrue(min(one, other) <= mood <= max(one, other))
        self.assertGreater(tried, 100)
        self.assertGreater(several, 20)

    def test_without_even_rings_both_are_the_same(self):
        random = Random(15)
        for web in without_odd_rings(16, 200):
            if not rings_by_word(web):
                rules = some_rules(random, web)
                self.assertEqual((low(web, rules),), settled_by_word(web, rules))
                self.assertEqual(low(web, rules), high(web, rules))

    def test_sequence_of_errors(self):
        for function in (low, high):
            self.assertEqual(error_of(function, CHASE, COPY), (BadRules, {"folk": 0}))
            self.assertEqual(error_of(function, CHASE, None), (BadRules, {"folk": None}))
            self.assertEqual(error_of(function, CHASE, ((1, 0), (1, 0))), (BadRules, {"folk": 1}))
            self.assertEqual(error_of(function, CHASE, ((1, 0), (0, 1))), (HasOdd, {}))
            self.assertEqual(error_of(function, ((1, 1), CHASE[1] * 2), None), (BadWeb, {"part": "looks"}))
            self.assertEqual(error_of(function, None, None), (BadWeb, {"part": "web"}))
            for wrong in STRANGE:
                self.assertIs(error_of(function, wrong, COPY)[0], BadWeb)
                self.assertIs(error_of(function, FRIENDS, wrong)[0], BadRules)

    def test_odd_ring_apart(self):
        web = ((1, 1, 1), ((0, 1, 1), (1, 0, 1), (2, 2, -1)))
        for function in (low, high):
            self.assertEqual(error_of(function, web, digits("01 01 10")), (HasOdd, {}))
            # Rules that leave the odd ring's look unused don't help.
            self.assertEqual(error_of(function, web, digits("01 01 11")), (HasOdd, {}))


if __name__ == "__main__":
    unittest.main()
