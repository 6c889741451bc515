"""Rings, even and odd ones, what they tell of the number of settled states, and parts."""

import unittest

from helper import (
    CHASE, FRIENDS, LONG, MIXED, SELF, STRANGE, all_rules_by_word, error_of, is_even_by_word, rings_by_word,
    settled_by_word, some_webs,
)
from likespite.errors import BadRing, BadWeb
from likespite.rings import (
    at_least_one, at_most_one, even_ring, is_even, just_one, odd_ring, parts, rings, shows_even_ring, shows_odd_ring,
)

FOES = ((1, 1), ((0, 1, -1), (1, 0, -1)))
CHAIN = ((1,) * 6, tuple((one, one + 1, 1) for one in range(5)))
ROUND = ((1,) * 6, ((0, 1, 1), (1, 2, -1), (2, 3, 1), (3, 4, -1), (4, 5, 1), (5, 0, -1)))
# All six folk in a ring whose numbers don't ascend: 0 - 3 - 1 - 5 - 2 - 4 - 0.
CROSSED = ((1,) * 6, ((0, 3, 1), (1, 5, -1), (2, 4, 1), (3, 1, 1), (4, 0, 1), (5, 2, -1)))
# 0 and 1 look at each other and at themselves: an even ring and odd ones.
BOTH = ((2, 1), ((0, 0, 1), (0, 1, -1), (1, 0, 1), (1, 1, -1)))
# Three rings through 0: 0-1, 0-2, 0-1-2.
THREE = ((1, 1, 1), ((0, 1, 1), (0, 2, -1), (1, 0, 1), (1, 2, 1), (2, 0, 1)))
WEBS = some_webs(4, 150) + some_webs(41, 60, most_folk=3) + [
    FRIENDS, CHASE, MIXED, SELF, LONG, FOES, CHAIN, ROUND, CROSSED, BOTH, THREE,
]


class Rings(unittest.TestCase):
    def test_document(self):
        self.assertEqual(rings(CHASE), ((0, 1),))
        self.assertIs(is_even(CHASE, (0, 1)), False)
        self.assertIs(at_most_one(CHASE), True)
        self.assertIs(at_least_one(CHASE), False)
        self.assertIs(just_one(CHASE), False)
        self.assertIsNone(even_ring(CHASE))
        self.assertEqual(odd_ring(CHASE), (0, 1))
        self.assertEqual(parts(CHASE), ((0, 1),))
        self.assertIs(shows_odd_ring(CHASE, (1, 0)), False)
        self.assertIs(shows_odd_ring(CHASE, (0, 1)), True)

    def test_none(self):
        self.assertEqual(rings(((1,), ())), ())
        self.assertEqual(rings(((3, 2, 1), ())), ())
        self.assertEqual(rings(CHAIN), ())
        # A look ahead to the same one by two ways is no ring.
        self.assertEqual(rings(((1, 1, 1), ((0, 1, 1), (0, 2, 1), (1, 2, 1)))), ())

    def test_oneself(self):
        for sign in (1, -1):
            self.assertEqual(rings(((1,), ((0, 0, sign),))), ((0,),))
            self.assertEqual(rings(((1, 2), ((0, 1, 1), (1, 1, sign)))), ((1,),))

    def test_several_through_one(self):
        self.assertEqual(rings(THREE), ((0, 2), (0, 3, 4), (1, 4)))
        self.assertEqual(rings(BOTH), ((0,), (1, 2), (3,)))

    def test_all_six(self):
        self.assertEqual(rings(ROUND), ((0, 1, 2, 3, 4, 5),))
        self.assertEqual(rings(CROSSED), ((0, 3, 1, 5, 2, 4),))

    def test_sequence_is_that_of_the_looks_from_one_to_other(self):
        # 0 is looked at by 2, 2 by 1, 1 by 0.
        self.assertEqual(rings(((1, 1, 1), ((0, 2, 1), (1, 0, 1), (2, 1, 1)))), ((0, 2, 1),))

    def test_no_ring_comes_twice_to_one(self):
        # Two rings that meet in 1 alone are no third ring.
        web = ((1, 1, 1), ((0, 1, 1), (1, 0, 1), (1, 2, 1), (2, 1, 1)))
        self.assertEqual(rings(web), ((0, 1), (2, 3)))

    def test_fourteen_looks(self):
        looks = [(one, other, 1) for one in range(4) for other in range(4) if one != other]
        web = ((1, 1, 1, 1, 2), tuple(sorted(looks + [(4, 4, -1), (0, 4, 1)])))
        found = rings(web)
        self.assertEqual(len(web[1]), 14)
        # Six rings of two, eight of three and six of four of them, and the look of 4 at themselves.
        self.assertEqual([len([ring for ring in found if len(ring) == many]) for many in range(1, 7)], [1, 6, 8, 6, 0, 0])
        self.assertEqual(found, rings_by_word(web))

    def test_by_word(self):
        for web in WEBS:
            with self.subTest(web=web):
                found = rings(web)
                self.assertEqual(found, rings_by_word(web))
                self.assertIs(type(found), tuple)
                self.assertTrue(all(type(ring) is tuple for ring in found))
                self.assertTrue(all(type(number) is int for ring in found for number in ring))

    def test_bad_web(self):
        functions = (rings, even_ring, odd_ring, at_most_one, at_least_one, just_one, parts)
        for function in functions:
            for wrong in STRANGE:
                found = error_of(function, wrong)
                self.assertIsNotNone(found, (function.__name__, wrong))
                self.assertIs(found[0], BadWeb)
            self.assertEqual(error_of(function, ((1, 4), ())), (BadWeb, {"part": "tops"}))
            self.assertEqual(error_of(function, ((1,), ((0, 0, 0),))), (BadWeb, {"part": "looks"}))


class Even(unittest.TestCase):
    def test_numbers_of_spites(self):
        for spites in range(7):
            signs = [-1] * spites + [1] * (6 - spites)
            web = ((1,) * 6, tuple((one, (one + 1) % 6, sign) for one, sign in enumerate(signs)))
            self.assertIs(is_even(web, (0, 1, 2, 3, 4, 5)), spites in (0, 2, 4, 6))

    def test_oneself(self):
        self.assertIs(is_even(((1,), ((0, 0, 1),)), (0,)), True)
        self.assertIs(is_even(((1,), ((0, 0, -1),)), (0,)), False)

    def test_only_the_looks_of_the_ring_count(self):
        self.assertEqual([is_even(THREE, ring) for ring in rings(THREE)], [True, True, False])
        self.assertEqual([is_even(BOTH, ring) for ring in rings(BOTH)], [True, False, False])

    def test_by_word(self):
        for web in WEBS:
            for ring in rings_by_word(web):
                self.assertIs(is_even(web, ring), is_even_by_word(web, ring))

    def test_no_ring(self):
        others = [
            0, 1, (), (0,), (1,), (2,), (1, 0), (True, 0), (0, True), (False, 1), (0, 2), (0, -1), (-2, -1), (0, 1, 0),
            (0, 1, 0, 1), (0, 0), ("0", "1"), (0, "1"), (0, None), ((0, 1),), [0, 1], "01", "0 1", {0: 1}, {0: 0, 1: 1},
            (0, [1]), ([0], [1]), (0, {}), None, True, False,
        ]
        for wrong in others + STRANGE:
            with self.subTest(wrong=wrong):
                self.assertEqual(error_of(is_even, CHASE, wrong), (BadRing, {}))

    def test_no_ring_where_looks_come_back_too_early(self):
        web = ((1, 1, 1), ((0, 1, 1), (1, 0, 1), (1, 2, 1), (2, 1, 1)))
        for wrong in ((0, 2, 3, 1), (0, 2), (0, 2, 3), (2, 3, 2, 3), (0, 1, 2, 3), (1, 0), (3, 2), (1, 2, 3, 0), (0, 3)):
            self.assertEqual(error_of(is_even, web, wrong), (BadRing, {}))
        self.assertIs(is_even(web, (2, 3)), True)

    def test_no_ring_that_begins_elsewhere(self):
        for first in range(1, 6):
            ring = tuple((first + step) % 6 for step in range(6))
            self.assertEqual(error_of(is_even, ROUND, ring), (BadRing, {}))
        self.assertEqual(error_of(is_even, CROSSED, (0, 1, 2, 3, 4, 5)), (BadRing, {}))
        self.assertIs(is_even(CROSSED, (0, 3, 1, 5, 2, 4)), True)

    def test_no_ring_with_truth_in_the_place_of_numbers(self):
        web = ((1, 1), ((0, 0, 1), (1, 1, 1)))
        self.assertIs(is_even(web, (1,)), True)
        for wrong in ((True,), (False,), True, False):
            self.assertEqual(error_of(is_even, web, wrong), (BadRing, {}))

    def test_no_ring_without_looks(self):
        for wrong in ((), (0,), None, (-1,)):
            self.assertEqual(error_of(is_even, ((1,), ()), wrong), (BadRing, {}))


class Shortest(unittest.TestCase):
    def test_few_looks(self):
        self.assertEqual(even_ring(BOTH), (0,))
        self.assertIn(odd_ring(BOTH), ((3,),))
        self.assertEqual(even_ring(THREE), (0, 2))
        self.assertEqual(odd_ring(THREE), (1, 4))
        # The even ring of three looks is the least one, that of one look the shortest.
        web = ((1, 1, 1), ((0, 1, 1), (1, 2, 1), (2, 0, 1), (2, 2, 1)))
        self.assertEqual(rings(web), ((0, 1, 2), (3,)))
        self.assertEqual(even_ring(web), (3,))
        self.assertIsNone(odd_ring(web))

    def test_by_word(self):
        for web in WEBS:
            for kind, call, shows in ((True, even_ring, shows_even_ring), (False, odd_ring, shows_odd_ring)):
                found = [ring for ring in rings_by_word(web) if is_even_by_word(web, ring) == kind]
                few = min(map(len, found), default=0)
                answer = call(web)
                with self.subTest(web=web, kind=kind):
                    self.assertIs(shows(web, answer), True)
                    self.assertIs(shows(web, None), not found)
                    if found:
                        self.assertIn(answer, found)
                        self.assertEqual(len(answer), few)
                    else:
                        self.assertIsNone(answer)
                    for ring in rings_by_word(web):
                        self.assertIs(shows(web, ring), ring in found and len(ring) == few)

    def test_shows_several(self):
        for ring in ((0, 2), (0, 3, 4), (1, 4)):
            self.assertIs(shows_even_ring(THREE, ring), ring == (0, 2))
            self.assertIs(shows_odd_ring(THREE, ring), ring == (1, 4))
        friends = ((1,) * 4, ((0, 1, 1), (1, 0, 1), (2, 3, -1), (3, 2, -1)))
        for ring in ((0, 1), (2, 3)):
            self.assertIs(shows_even_ring(friends, ring), True)
            self.assertIs(shows_odd_ring(friends, ring), False)
        self.assertIs(shows_odd_ring(friends, None), True)

    def test_shows_no_other_value(self):
        for wrong in STRANGE + [(1, 0), (0, True), (False, 1), [0, 1], (0, 1, 0, 1), (0,), "(0, 1)", {0: 1}, (0, [1])]:
            with self.subTest(wrong=wrong):
                self.assertIs(shows_even_ring(FRIENDS, wrong), False)
                self.assertIs(shows_odd_ring(CHASE, wrong), False)
                self.assertIs(shows_odd_ring(FRIENDS, wrong), wrong is None)
                self.assertIs(shows_even_ring(CHASE, wrong), wrong is None)
                self.assertIs(shows_even_ring(((1,), ()), wrong), wrong is None)
                self.assertIs(shows_odd_ring(((1,), ()), wrong), wrong is None)

    def test_shows_no_truth_in_the_place_of_numbers(self):
        web = ((1, 1), ((0, 0, 1), (1, 1, 1)))
        self.assertEqual([shows_even_ring(web, ring) for ring in ((0,), (1,), (True,), (False,))], [True, True, False, False])

    def test_bad_web(self):
        for function in (shows_even_ring, shows_odd_ring):
            for wrong in STRANGE:
                for value in (None, (0, 1), []):
                    self.assertIs(error_of(function, wrong, value)[0], BadWeb)


class NumbersOfSettledStates(unittest.TestCase):
    def test_kinds(self):
        # At most one, at least one, just one: without rings, with even ones, with odd ones, with both.
        for webs, expected in (
            ((((1,), ()), CHAIN, ((3, 2, 1), ())), (True, True, True)),
            ((FRIENDS, FOES, ((2,), ((0, 0, 1),))), (False, True, False)),
            ((CHASE, ROUND, ((3,), ((0, 0, -1),))), (True, False, False)),
            ((BOTH, THREE), (False, False, False)),
        ):
            for web in webs:
                self.assertEqual((at_most_one(web), at_least_one(web), just_one(web)), expected, web)
                for answer in (at_most_one(web), at_least_one(web), just_one(web)):
                    self.assertIs(type(answer), bool)

    def test_truth_over_all_rules(self):
        webs = some_webs(5, 60, most_folk=2, most_top=2, most_of_one=1)
        webs += some_webs(6, 40, most_folk=3, most_top=1, most_looks=5, most_of_one=2)
        webs += some_webs(7, 40, most_folk=2, most_top=1)
        answers = set()
        for web in webs:
            many = [len(settled_by_word(web, rules)) for rules in all_rules_by_word(web)]
            with self.subTest(web=web):
                self.assertIs(at_most_one(web), max(many) <= 1)
                self.assertIs(at_least_one(web), min(many) >= 1)
                self.assertIs(just_one(web), max(many) == 1 == min(many))
            answers.add((at_most_one(web), at_least_one(web)))
        self.assertEqual(len(answers), 4)

    def test_top_3_by_oneself(self):
        for sign, expected in ((1, (False, True, False)), (-1, (True, False, False))):
            web = ((3,), ((0, 0, sign),))
            many = {len(settled_by_word(web, rules)) for rules in all_rules_by_word(web)}
            self.assertEqual((max(many) <= 1, min(many) >= 1, many == {1}), expected)
            self.assertEqual((at_most_one(web), at_least_one(web), just_one(web)), expected)


def leads(web, folk, goal):
    """Whether one leads to another by looks, or is that one."""
    led = {folk}
    while True:
        more = led | {other for one, other, _ in web[1] if one in led}
        if more == led:
            return goal in led
        led = more


class Parts(unittest.TestCase):
    def test_without_looks(self):
        self.assertEqual(parts(((1,), ())), ((0,),))
        self.assertEqual(parts(((1, 2, 3), ())), ((0,), (1,), (2,)))

    def test_one_of_all(self):
        self.assertEqual(parts(ROUND), ((0, 1, 2, 3, 4, 5),))
        self.assertEqual(parts(CROSSED), ((0, 1, 2, 3, 4, 5),))
        self.assertEqual(parts(THREE), ((0, 1, 2),))

    def test_chain_and_oneself(self):
        self.assertEqual(parts(CHAIN), ((0,), (1,), (2,), (3,), (4,), (5,)))
        self.assertEqual(parts(((1, 1), ((0, 0, -1), (0, 1, 1)))), ((0,), (1,)))

    def test_several(self):
        # 4 and 0 look at each other, so do 5 and 2; 1 looks at 5, 0 at 1.
        web = ((1,) * 6, ((0, 4, 1), (1, 0, 1), (2, 5, 1), (4, 0, 1), (5, 1, 1), (5, 2, -1)))
        self.assertEqual(parts(web), ((0, 4), (1,), (2, 5), (3,)))

    def test_by_word(self):
        for web in WEBS:
            many = range(len(web[0]))
            found = {tuple(b for b in many if leads(web, a, b) and leads(web, b, a)) for a in many}
            self.assertEqual(parts(web), tuple(sorted(found)))


if __name__ == "__main__":
    unittest.main()
