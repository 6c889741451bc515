"""A ring, told: its rules, the two states that are settled by them, and its looks as a text."""

import unittest
from itertools import product
from random import Random

from helper import (
    CHASE, FRIENDS, LONG, MIXED, ROUNDS, SELF, STRANGE, are_rules_by_word, around, error_of, is_even_by_word,
    rings_by_word, settled_by_word, some_webs, states_by_word, told_by_word,
)
from likespite.errors import BadRing, BadWeb, NoEven
from likespite.rules import is_settled, settled
from likespite.tales import pair_by, ring_tale, rules_by

FOES = ((1, 1), ((0, 1, -1), (1, 0, -1)))
FUNCTIONS = (rules_by, pair_by, ring_tale)
NO_RINGS = [
    None, True, False, 0, 1, -1, 10**30, "", "0", "01", "0 1", [], [0], [0, 1], {}, {0: 1}, (), (0,), (1,), (1, 0), (0, 0),
    (0, 1, 0), (0, 1, 0, 1), (0, 2), (2,), (-1,), (0, -1), (False, 1), (0, True), (False, True), (None,), ("0", "1"),
    ((0, 1),), ([0, 1],), ({},), (0, None), (0, [1]), (10**30,), (0, (1,)), ((0, 1, 1), (1, 0, 1)),
]


def with_more_looks(random, web):
    """The web with some further looks at anybody, four of each one's at the most."""
    tops, looks = web
    found = {(one, other): sign for one, other, sign in looks}
    pairs = [pair for pair in product(range(len(tops)), repeat=2) if pair not in found]
    random.shuffle(pairs)
    for one, other in pairs:
        if len(found) < 14 and len([pair for pair in found if pair[1] == other]) < 4 and random.random() < 0.7:
            found[one, other] = random.choice((1, -1))
    return tops, tuple(sorted((one, other, sign) for (one, other), sign in found.items()))


RANDOM = Random(81)
WEBS = (
    ROUNDS + [with_more_looks(RANDOM, web) for web in ROUNDS] + some_webs(82, 60, most_folk=4)
    + [FRIENDS, CHASE, MIXED, SELF, FOES, LONG]
)


def mood_by_word(web, ring, folk, state):
    """The mood that one has in a state by the rules of a ring."""
    tops, looks = web
    for number in ring:
        one, other, sign = looks[number]
        if other == folk:
            moved = state[one] > 0 if sign == 1 else state[one] == 0
            return tops[folk] if moved else 0
    return 0


def tale_by_word(web, ring):
    lines = []
    spites = 0
    for number in ring:
        one, other, sign = web[1][number]
        lines.append(f"{other} looks at {one} with {'spite' if sign == -1 else 'liking'}\n")
        spites += sign == -1
    lines.append(f"spites {spites}: {'odd' if spites % 2 else 'even'}\n")
    return "".join(lines)


def some_rings(random, web):
    """All rings of a web, at most eight of them, by chance, where there are more."""
    found = rings_by_word(web)
    return random.sample(found, min(8, len(found)))


class Examples(unittest.TestCase):
    def test_document(self):
        self.assertEqual(rules_by(FOES, (0, 1)), ((1, 0), (1, 0)))
        self.assertEqual(pair_by(FOES, (0, 1)), ((0, 1), (1, 0)))
        self.assertEqual(ring_tale(FOES, (0, 1)), "1 looks at 0 with spite\n0 looks at 1 with spite\nspites 2: even\n")
        self.assertEqual(error_of(pair_by, FOES, (1, 0)), (BadRing, {}))

    def test_by_name(self):
        self.assertEqual(rules_by(ring=(0, 1), web=FRIENDS), ((0, 1), (0, 1)))
        self.assertEqual(pair_by(ring=(0, 1), web=FRIENDS), ((0, 0), (1, 1)))
        self.assertEqual(ring_tale(ring=(0,), web=((1,), ((0, 0, 1),))), "0 looks at 0 with liking\nspites 0: even\n")


class RulesBy(unittest.TestCase):
    def test_one_look(self):
        for top in (1, 2, 3):
            self.assertEqual(rules_by(((top,), ((0, 0, 1),)), (0,)), ((0,) + (top,) * top,))
            self.assertEqual(rules_by(((top,), ((0, 0, -1),)), (0,)), ((top,) + (0,) * top,))

    def test_further_looks(self):
        # 1 looks at 0 (liking), 1 (spite) and 2 (spite); 0 at 1 (spite) and 2 (liking); 2 at nobody.
        web = ((2, 3, 1), ((0, 1, 1), (1, 0, -1), (1, 1, -1), (2, 0, 1), (2, 1, -1)))
        self.assertEqual(rules_by(web, (0, 1)), ((2, 2, 0, 0, 0, 0, 0, 0), (0,) * 8 + (3,) * 16, (0,)))
        self.assertEqual(rules_by(web, (2,)), ((0,) * 8, ((3, 3) + (0,) * 6) * 3, (0,)))

    def test_by_word(self):
        random = Random(83)
        tried = 0
        for web in WEBS:
            for ring in some_rings(random, web):
                rules = rules_by(web, ring)
                self.assertTrue(are_rules_by_word(web, rules))
                states = states_by_word(web)
                for state in random.sample(states, min(12, len(states))):
                    for folk in range(len(state)):
                        found = told_by_word(web, rules, state, folk)
                        self.assertEqual(found, mood_by_word(web, ring, folk, state), (web, ring, folk, state))
                # That it doesn't raise BadRules says that the package takes them.
                self.assertIn(is_settled(web, rules, states[0]), (True, False))
                tried += 1
        self.assertGreater(tried, 400)


class PairBy(unittest.TestCase):
    def test_one_look(self):
        for top in (1, 2, 3):
            self.assertEqual(pair_by(((top,), ((0, 0, 1),)), (0,)), ((0,), (top,)))
            self.assertEqual(error_of(pair_by, ((top,), ((0, 0, -1),)), (0,)), (NoEven, {}))

    def test_sequence_of_the_two(self):
        # The ring's first look is at 0 in each ring in which 0 is; without 0 the one at whom it is tells.
        self.assertEqual(pair_by(FOES, (0, 1)), ((0, 1), (1, 0)))
        web = ((1, 2, 3), ((1, 2, -1), (2, 1, -1)))
        self.assertEqual(pair_by(web, (0, 1)), ((0, 0, 3), (0, 2, 0)))
        web = ((2, 3, 1), ((0, 2, -1), (2, 0, -1)))
        self.assertEqual(pair_by(web, (0, 1)), ((0, 0, 1), (2, 0, 0)))

    def test_no_even(self):
        self.assertEqual(error_of(pair_by, CHASE, (0, 1)), (NoEven, {}))
        # Another ring of the web is even, this one isn't.
        web = ((1, 1), ((0, 0, 1), (0, 1, 1), (1, 0, -1)))
        self.assertEqual(error_of(pair_by, web, (1, 2)), (NoEven, {}))
        self.assertEqual(pair_by(web, (0,)), ((0, 0), (1, 0)))

    def test_by_word(self):
        random = Random(84)
        tried = {True: 0, False: 0}
        for web in WEBS:
            for ring in some_rings(random, web)[:3 if len(states_by_word(web)) > 300 else 8]:
                even = is_even_by_word(web, ring)
                tried[even] += 1
                rules = rules_by(web, ring)
                by_rules = settled_by_word(web, rules) if len(states_by_word(web)) < 300 else settled(web, rules)
                with self.subTest(web=web, ring=ring):
                    if even:
                        first, second = pair_by(web, ring)
                        self.assertIs(type(pair_by(web, ring)), tuple)
                        self.assertEqual(tuple(sorted((first, second))), by_rules)
                        one = web[1][ring[0]][0]
                        self.assertEqual((first[one], second[one]), (0, web[0][one]))
                    else:
                        self.assertEqual(error_of(pair_by, web, ring), (NoEven, {}))
                        self.assertEqual(by_rules, ())
        self.assertGreater(min(tried.values()), 150, tried)


class RingTale(unittest.TestCase):
    def test_each_line(self):
        web = ((1, 1, 1), ((0, 1, 1), (1, 2, -1), (2, 0, 1), (2, 2, -1)))
        self.assertEqual(ring_tale(web, (0, 1, 2)), (
            "1 looks at 0 with liking\n2 looks at 1 with spite\n0 looks at 2 with liking\nspites 1: odd\n"
        ))
        self.assertEqual(ring_tale(web, (3,)), "2 looks at 2 with spite\nspites 1: odd\n")

    def test_sequence_of_the_ring(self):
        # 2 looks at 0, 1 at 2, 0 at 1: not in the sequence of the web.
        web = ((1, 1, 1), ((0, 2, -1), (1, 0, -1), (2, 1, 1)))
        self.assertEqual(ring_tale(web, (0, 2, 1)), (
            "2 looks at 0 with spite\n1 looks at 2 with liking\n0 looks at 1 with spite\nspites 2: even\n"
        ))

    def test_number_of_spites(self):
        for many in range(1, 7):
            for spites in range(many + 1):
                web = around((-1,) * spites + (1,) * (many - spites), (1,) * many)
                lines = ring_tale(web, rings_by_word(web)[0]).split("\n")
                self.assertEqual(lines[-2:], [f"spites {spites}: {('even', 'odd')[spites % 2]}", ""])
                self.assertEqual(len(lines), many + 2)

    def test_by_word(self):
        for web in WEBS:
            for ring in rings_by_word(web):
                self.assertEqual(ring_tale(web, ring), tale_by_word(web, ring))


class Wrong(unittest.TestCase):
    def test_bad_ring(self):
        for wrong in NO_RINGS:
            for function in FUNCTIONS:
                for web in (FRIENDS, CHASE, FOES):
                    with self.subTest(function=function.__name__, wrong=wrong):
                        self.assertEqual(error_of(function, web, wrong), (BadRing, {}))

    def test_no_rings_at_all(self):
        for wrong in ((), (0,), (0, 1), None):
            for function in FUNCTIONS:
                self.assertEqual(error_of(function, ((1, 1), ((0, 1, 1),)), wrong), (BadRing, {}))
                self.assertEqual(error_of(function, ((1,), ()), wrong), (BadRing, {}))

    def test_looks_that_are_no_ring(self):
        # 0 and 1 look at one another, and each at themselves: a way through unlike folk only.
        web = ((1, 1), ((0, 0, 1), (0, 1, 1), (1, 0, 1), (1, 1, 1)))
        for function in FUNCTIONS:
            for ring in ((0,), (1, 2), (3,)):
                self.assertIsNone(error_of(function, web, ring))
            for wrong in ((0, 1, 2), (1, 3, 2), (2, 1), (0, 3), (1,), (2,), (0, 0), (0, 1, 3, 2)):
                self.assertEqual(error_of(function, web, wrong), (BadRing, {}))

    def test_sequence(self):
        for wrong in STRANGE:
            for function in FUNCTIONS:
                self.assertIs(error_of(function, wrong, None)[0], BadWeb)
                self.assertIs(error_of(function, wrong, (0, 1))[0], BadWeb)
                self.assertEqual(error_of(function, CHASE, wrong), (BadRing, {}))
        # The one ring is odd; what is no ring is named ahead of it.
        self.assertEqual(error_of(pair_by, CHASE, (1, 0)), (BadRing, {}))
        self.assertEqual(error_of(pair_by, ((1, 0), CHASE[1]), (0, 1)), (BadWeb, {"part": "tops"}))


if __name__ == "__main__":
    unittest.main()
