"""How soon folk are settled where there are no rings."""

import unittest
from random import Random

from helper import (
    CHASE, FRIENDS, SELF, STRANGE, all_rules_by_word, error_of, rings_by_word, some_rules, some_webs, states_by_word,
)
from likespite.chains import depth, depths
from likespite.errors import BadWeb, HasRing
from likespite.rules import run, settled

THREE = ((1, 3, 1), ((0, 1, 1), (0, 2, -1), (1, 2, 1)))
CHAIN = ((1, 2, 3, 1, 2, 3), tuple((one, one + 1, (-1) ** one) for one in range(5)))


def depth_by_word(web, folk):
    """The greatest number of folk in a chain that ends with one of them, all chains gone back."""
    return 1 + max((depth_by_word(web, one) for one, other, _ in web[1] if other == folk), default=0)


WITHOUT_RINGS = [
    web for web in some_webs(21, 400) + some_webs(22, 300, most_looks=7) if web[1] and not rings_by_word(web)
]


class Depths(unittest.TestCase):
    def test_document(self):
        self.assertEqual(depth(THREE), 3)
        self.assertEqual(depths(THREE), (1, 2, 3))
        self.assertEqual(error_of(depth, ((1,), ((0, 0, 1),))), (HasRing, {}))

    def test_without_looks(self):
        self.assertEqual([depth(((2,), ())), depths(((2,), ()))], [1, (1,)])
        self.assertEqual([depth(((1,) * 6, ())), depths(((1,) * 6, ()))], [1, (1,) * 6])

    def test_chain_of_six(self):
        self.assertEqual([depth(CHAIN), depths(CHAIN)], [6, (1, 2, 3, 4, 5, 6)])
        back = ((1,) * 6, tuple((one + 1, one, 1) for one in range(5)))
        self.assertEqual([depth(back), depths(back)], [6, (6, 5, 4, 3, 2, 1)])

    def test_longest_of_several(self):
        # 0 looks at 1 and at 4, 4 at 3, 3 at 2; 5 looks at nobody and nobody at 5.
        web = ((1,) * 6, ((1, 0, 1), (2, 3, 1), (3, 4, -1), (4, 0, 1)))
        self.assertEqual([depth(web), depths(web)], [4, (4, 1, 1, 2, 3, 1)])
        # The deepest one isn't the last one, nor one at whom nobody looks by the first look.
        web = ((1,) * 4, ((0, 2, 1), (1, 2, 1), (2, 3, 1), (3, 1, 1)))
        self.assertEqual(error_of(depths, web), (HasRing, {}))
        web = ((1,) * 4, ((0, 1, 1), (0, 2, 1), (0, 3, 1), (3, 2, 1)))
        self.assertEqual([depth(web), depths(web)], [3, (1, 2, 3, 2)])

    def test_by_word(self):
        self.assertGreater(len(WITHOUT_RINGS), 60)
        for web in WITHOUT_RINGS:
            found = tuple(depth_by_word(web, folk) for folk in range(len(web[0])))
            with self.subTest(web=web):
                self.assertEqual(depths(web), found)
                self.assertEqual(depth(web), max(found))

    def assert_settled(self, web, rules, states):
        """From each one's depth on they have the mood of the one settled state, from whatever state."""
        (end,) = settled(web, rules)
        last = depth(web) + 2
        for state in states:
            for tick, now in enumerate(run(web, rules, state, last)):
                for folk, least in enumerate(depths(web)):
                    if tick >= least:
                        self.assertEqual(now[folk], end[folk], (web, rules, state, tick))

    def test_settled_for_good_by_some_rules(self):
        random = Random(23)
        for web in WITHOUT_RINGS + [CHAIN, THREE]:
            states = states_by_word(web)
            self.assert_settled(web, some_rules(random, web), random.sample(states, min(len(states), 20)))

    def test_settled_for_good_by_all_rules(self):
        for web in (((1, 1, 2), ((0, 1, 1), (1, 2, -1))), ((1, 2), ((1, 0, -1),)), ((1, 1, 1), THREE[1])):
            soonest = set()
            for rules in all_rules_by_word(web):
                self.assert_settled(web, rules, states_by_word(web))
                (end,) = settled(web, rules)
                soonest |= {
                    tick for state in states_by_word(web) for tick in range(depth(web) + 1)
                    if run(web, rules, state, tick)[-1] != end
                }
            # Some rules need so many ticks indeed.
            self.assertEqual(max(soonest), depth(web) - 1)

    def test_has_ring(self):
        webs = [
            ((1,), ((0, 0, -1),)), FRIENDS, CHASE, SELF, ((1, 1), ((0, 1, 1), (1, 1, 1))),
            ((1,) * 6, tuple((one, (one + 1) % 6, 1) for one in range(6))),
        ]
        for web in webs + [web for web in some_webs(24, 100) if rings_by_word(web)]:
            for function in (depth, depths):
                self.assertEqual(error_of(function, web), (HasRing, {}))

    def test_bad_web(self):
        for function in (depth, depths):
            for wrong in STRANGE:
                self.assertIs(error_of(function, wrong)[0], BadWeb)
            self.assertEqual(error_of(function, ((1,), ((0, 0, 1), (0, 0, -1)))), (BadWeb, {"part": "looks"}))
            self.assertEqual(error_of(function, ((0,), ((0, 0, 1),))), (BadWeb, {"part": "tops"}))


if __name__ == "__main__":
    unittest.main()
