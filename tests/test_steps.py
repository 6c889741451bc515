"""Looks again, one by one: where they lead."""

import unittest
from itertools import product
from random import Random

from helper import (
    CHASE, FRIENDS, LONG, LONG_RULES, LONG_STATE, STRANGE, VILLAGES, digits, error_of, is_even_by_word, rings_by_word,
    settled_by_word, some_rules, some_webs, states_by_word, told_by_word,
)
from likespite.errors import BadRules, BadState, BadWeb
from likespite.rules import is_settled, settled
from likespite.steps import come_to, ends, looks_to, shows_looks_to

COPY = ((0, 1), (0, 1))
CIRCLE = ((1, 0), (0, 1))
# No tuple of folk, whatever the way is.
NO_WAYS = [value for value in STRANGE if value is not None and not (type(value) is tuple and value == ())] + [
    [0], [1], "1", (True,), (False,), ("1",), (2,), (-1,), (1.0,), (None, None), ([1],), ((1,),), {1: 1}, (1, None),
]


def look_by_word(web, rules, state, folk):
    """The state in which one has the mood that theirs tells."""
    found = list(state)
    found[folk] = told_by_word(web, rules, state, folk)
    return tuple(found)


class Village:
    """All steps of a web by its rules, worked out once: where they lead, and by how many looks again."""

    def __init__(self, web, rules):
        self.states = states_by_word(web)
        self.folk = range(len(web[0]))
        self.steps = {state: [look_by_word(web, rules, state, folk) for folk in self.folk] for state in self.states}
        self.settled = settled_by_word(web, rules)

    def distances(self, state):
        """For each state to which looks again lead the least number of them, layer by layer."""
        found, layer, many = {state: 0}, {state}, 0
        while layer:
            many += 1
            layer = {later for now in layer for later in self.steps[now]} - set(found)
            found.update({later: many for later in layer})
        return found

    def led(self, state, folk_again):
        for folk in folk_again:
            state = self.steps[state][folk]
        return state

    def ends(self):
        """States that lead to one another and to none outside, told by where each of them leads."""
        led = {state: frozenset(self.distances(state)) for state in self.states}
        found = {lot for lot in led.values() if all(led[other] == lot for other in lot)}
        return tuple(sorted(tuple(sorted(lot)) for lot in found))


RANDOM = Random(101)
SOME = [(web, some_rules(RANDOM, web)) for web in some_webs(102, 60, most_folk=3, most_top=2, most_of_one=3)]
SMALL = [(web, rules, Village(web, rules)) for web, rules in VILLAGES + SOME + [(((3,), ((0, 0, -1),)), ((3, 2, 1, 0),))]]


class Examples(unittest.TestCase):
    def test_document(self):
        self.assertEqual(come_to(FRIENDS, COPY, (0, 1)), ((0, 0), (1, 1)))
        self.assertEqual(looks_to(FRIENDS, COPY, (0, 1), (1, 1)), (0,))
        self.assertIsNone(looks_to(FRIENDS, COPY, (1, 1), (0, 1)))
        self.assertIs(shows_looks_to(FRIENDS, COPY, (0, 1), (0, 0), (1,)), True)
        self.assertEqual(ends(FRIENDS, COPY), (((0, 0),), ((1, 1),)))

    def test_by_name(self):
        self.assertEqual(come_to(state=(1, 1), rules=COPY, web=FRIENDS), ((1, 1),))
        self.assertEqual(looks_to(goal=(0, 0), state=(0, 1), rules=COPY, web=FRIENDS), (1,))
        self.assertIs(shows_looks_to(value=(0,), goal=(0, 0), state=(0, 1), rules=COPY, web=FRIENDS), False)
        self.assertEqual(ends(rules=CIRCLE, web=CHASE), (((0, 0), (0, 1), (1, 0), (1, 1)),))


class ComeTo(unittest.TestCase):
    def test_from_a_settled_state(self):
        for web, rules, village in SMALL:
            for state in village.settled:
                self.assertEqual(come_to(web, rules, state), (state,))

    def test_none_one_several(self):
        for state in states_by_word(CHASE):
            self.assertEqual(come_to(CHASE, CIRCLE, state), ())
            self.assertEqual(come_to(CHASE, digits("11 01"), state), ((1, 1),))
        self.assertEqual(come_to(FRIENDS, COPY, (1, 0)), ((0, 0), (1, 1)))
        self.assertEqual(come_to(FRIENDS, COPY, (0, 0)), ((0, 0),))

    def test_not_by_ticks(self):
        # All at once they never settle, one by one they do.
        self.assertEqual(come_to(FRIENDS, COPY, (0, 1)), settled(FRIENDS, COPY))

    def test_by_word(self):
        numbers = set()
        for web, rules, village in SMALL:
            for state in village.states:
                found = come_to(web, rules, state)
                reached = village.distances(state)
                self.assertEqual(found, tuple(other for other in village.settled if other in reached))
                self.assertTrue(type(found) is tuple and all(type(other) is tuple for other in found))
                numbers.add(min(len(found), 2))
        self.assertEqual(numbers, {0, 1, 2})

    def test_long(self):
        self.assertEqual(come_to(LONG, LONG_RULES, LONG_STATE), settled(LONG, LONG_RULES))

    def test_errors_in_sequence(self):
        for wrong in STRANGE:
            self.assertIs(error_of(come_to, wrong, None, None)[0], BadWeb)
            self.assertIs(error_of(come_to, FRIENDS, wrong, None)[0], BadRules)
            self.assertEqual(error_of(come_to, FRIENDS, COPY, wrong), (BadState, {}))


class LooksTo(unittest.TestCase):
    def test_to_itself(self):
        for web, rules, village in SMALL:
            for state in village.states:
                self.assertEqual(looks_to(web, rules, state, state), ())
                self.assertIs(shows_looks_to(web, rules, state, state, ()), True)
                self.assertIs(shows_looks_to(web, rules, state, state, (0,)), False)
                self.assertIs(shows_looks_to(web, rules, state, state, None), False)

    def test_by_word(self):
        greatest = 0
        for web, rules, village in SMALL:
            for state in village.states:
                distances = village.distances(state)
                for goal in village.states:
                    found = looks_to(web, rules, state, goal)
                    if goal in distances:
                        self.assertIs(type(found), tuple)
                        self.assertTrue(all(type(folk) is int for folk in found))
                        self.assertEqual(len(found), distances[goal])
                        self.assertEqual(village.led(state, found), goal)
                    else:
                        self.assertIsNone(found)
                    self.assertIs(shows_looks_to(web, rules, state, goal, found), True)
                    greatest = max(greatest, len(found or ()))
        self.assertGreater(greatest, 5)

    def test_each_look_of_a_long_way(self):
        goal = settled(LONG, LONG_RULES)[0]
        found = looks_to(LONG, LONG_RULES, LONG_STATE, goal)
        now = LONG_STATE
        for folk in found:
            later = look_by_word(LONG, LONG_RULES, now, folk)
            self.assertNotEqual(later, now)
            now = later
        self.assertEqual(now, goal)
        self.assertIs(shows_looks_to(LONG, LONG_RULES, LONG_STATE, goal, found), True)
        self.assertIs(shows_looks_to(LONG, LONG_RULES, LONG_STATE, goal, found + (0,)), False)
        self.assertIs(shows_looks_to(LONG, LONG_RULES, LONG_STATE, goal, found[:-1]), False)
        self.assertIsNone(looks_to(LONG, LONG_RULES, goal, LONG_STATE))

    def test_errors_in_sequence(self):
        for wrong in STRANGE:
            for function, more in ((looks_to, ()), (shows_looks_to, (None,))):
                self.assertIs(error_of(function, wrong, None, None, None, *more)[0], BadWeb)
                self.assertIs(error_of(function, FRIENDS, wrong, None, None, *more)[0], BadRules)
                self.assertEqual(error_of(function, FRIENDS, COPY, wrong, None, *more), (BadState, {}))
                self.assertEqual(error_of(function, FRIENDS, COPY, (0, 1), wrong, *more), (BadState, {}))
                self.assertEqual(error_of(function, FRIENDS, COPY, wrong, (0, 1), *more), (BadState, {}))
        for wrong in ((0, 2), (0, True), (0,), (0, 1, 0), [0, 1], "0 1"):
            self.assertEqual(error_of(looks_to, FRIENDS, COPY, (0, 1), wrong), (BadState, {}))
            self.assertEqual(error_of(shows_looks_to, FRIENDS, COPY, (0, 1), wrong, ()), (BadState, {}))


class ShowsLooksTo(unittest.TestCase):
    def test_by_word(self):
        """All tuples of folk that aren't too long, told by how long they are and where they lead."""
        for web, rules, village in SMALL:
            tuples = [way for size in range(4) for way in product(village.folk, repeat=size)]
            for state in village.states[::3]:
                distances = village.distances(state)
                for goal in village.states[::2]:
                    for way in tuples:
                        expected = len(way) == distances.get(goal) and village.led(state, way) == goal
                        self.assertIs(shows_looks_to(web, rules, state, goal, way), expected)
                    self.assertIs(shows_looks_to(web, rules, state, goal, None), goal not in distances)

    def test_several_ways(self):
        # Two who look at nobody: in any sequence.
        web, rules = ((1, 1, 1), ()), digits("1 1 0")
        for way in ((0, 1), (1, 0)):
            self.assertIs(shows_looks_to(web, rules, (0, 0, 0), (1, 1, 0), way), True)
        for way in ((0,), (1,), (0, 0), (1, 1), (0, 2), (0, 1, 2), (2, 0, 1), (0, 1, 1), (), None, (0, 3), (1, -1), (-3, -2)):
            self.assertIs(shows_looks_to(web, rules, (0, 0, 0), (1, 1, 0), way), False)

    def test_no_ways(self):
        self.assertIs(shows_looks_to(FRIENDS, COPY, (0, 1), (0, 0), (1,)), True)
        self.assertIs(shows_looks_to(FRIENDS, COPY, (0, 1), (0, 0), None), False)
        self.assertIs(shows_looks_to(FRIENDS, COPY, (0, 1), (0, 0), ()), False)
        for wrong in NO_WAYS:
            with self.subTest(wrong=wrong):
                self.assertIs(shows_looks_to(FRIENDS, COPY, (0, 1), (0, 0), wrong), False)
                self.assertIs(shows_looks_to(FRIENDS, COPY, (0, 0), (0, 0), wrong), False)
                self.assertIs(shows_looks_to(FRIENDS, COPY, (0, 0), (0, 1), wrong), False)

    def test_none_where_there_is_none(self):
        self.assertIs(shows_looks_to(FRIENDS, COPY, (1, 1), (0, 1), None), True)
        for wrong in ((), (0,), (1,), (0, 1), False, 0, "", [], {}, "None", (None,)):
            self.assertIs(shows_looks_to(FRIENDS, COPY, (1, 1), (0, 1), wrong), False)

    def test_truth_values_are_no_folk(self):
        web, rules = ((1, 1), ()), digits("1 1")
        self.assertIs(shows_looks_to(web, rules, (0, 0), (1, 1), (0, 1)), True)
        for wrong in ((0, True), (False, 1), (False, True), [0, 1], (0, "1")):
            self.assertIs(shows_looks_to(web, rules, (0, 0), (1, 1), wrong), False)


class Ends(unittest.TestCase):
    def test_settled_states_alone(self):
        self.assertEqual(ends(FRIENDS, COPY), (((0, 0),), ((1, 1),)))
        self.assertEqual(ends(((1,), ()), ((1,),)), (((1,),),))
        self.assertEqual(ends(((3,), ((0, 0, 1),)), ((0, 1, 2, 3),)), (((0,),), ((1,),), ((2,),), ((3,),)))

    def test_lots_of_several(self):
        self.assertEqual(ends(CHASE, CIRCLE), (((0, 0), (0, 1), (1, 0), (1, 1)),))
        self.assertEqual(ends(((1,), ((0, 0, -1),)), ((1, 0),)), (((0,), (1,)),))
        # 3 and 0 lead to one another, so do 2 and 1.
        self.assertEqual(ends(((3,), ((0, 0, -1),)), ((3, 2, 1, 0),)), (((0,), (3,)), ((1,), (2,))))

    def test_both(self):
        # 1 is settled; the others go round.
        self.assertEqual(ends(((2,), ((0, 0, -1),)), ((2, 1, 0),)), (((0,), (2,)), ((1,),)))
        # 0 stays; while they stand at 1, 1 goes round.
        web, rules = ((1, 1), ((0, 0, 1), (0, 1, 1), (1, 1, -1))), digits("01 0010")
        self.assertEqual(ends(web, rules), (((0, 0),), ((1, 0), (1, 1))))

    def test_by_word(self):
        random, kinds = Random(109), set()
        more = [(web, some_rules(random, web)) for web in some_webs(110, 40, most_folk=4, most_looks=10)]
        for web, rules, village in SMALL + [(web, rules, Village(web, rules)) for web, rules in more]:
            found = ends(web, rules)
            self.assertEqual(found, village.ends(), (web, rules))
            self.assertIs(type(found), tuple)
            for lot in found:
                self.assertTrue(type(lot) is tuple and all(type(state) is tuple for state in lot))
            kinds.add((min(len(found), 2), max(len(lot) for lot in found) > 1))
        self.assertEqual(kinds, set(product((1, 2), (True, False))))

    def test_great_ones(self):
        random = Random(103)
        for web in some_webs(104, 40, most_looks=12, most_of_one=3):
            rules = some_rules(random, web)
            found = ends(web, rules)
            self.assertEqual(list(found), sorted(found))
            self.assertEqual(tuple(lot[0] for lot in found if len(lot) == 1), settled(web, rules))
            for lot in found:
                self.assertEqual(list(lot), sorted(set(lot)))
                led = {look_by_word(web, rules, state, folk) for state in lot for folk in range(len(web[0]))}
                self.assertLessEqual(led, set(lot))

    def test_long(self):
        self.assertEqual(ends(LONG, LONG_RULES), ((settled(LONG, LONG_RULES)[0],),))

    def test_without_odd_rings(self):
        random = Random(105)
        tried = 0
        for web in some_webs(106, 200, most_folk=4) + [FRIENDS]:
            if all(is_even_by_word(web, ring) for ring in rings_by_word(web)):
                rules = some_rules(random, web)
                self.assertTrue(all(len(lot) == 1 for lot in ends(web, rules)))
                states = states_by_word(web)
                for state in random.sample(states, min(8, len(states))):
                    self.assertTrue(come_to(web, rules, state))
                tried += 1
        self.assertGreater(tried, 60)

    def test_without_even_rings(self):
        random = Random(107)
        tried = {True: 0, False: 0}
        for web in some_webs(108, 300, most_folk=5, most_top=1) + [CHASE]:
            rings = rings_by_word(web)
            if rings and not any(is_even_by_word(web, ring) for ring in rings):
                rules = some_rules(random, web)
                found = ends(web, rules)
                self.assertEqual(len(found), 1)
                self.assertIs(len(found[0]) == 1, bool(settled(web, rules)))
                tried[len(found[0]) > 1] += 1
        self.assertGreater(min(tried.values()), 5, tried)

    def test_settled_ones(self):
        for web, rules, village in SMALL:
            for lot in ends(web, rules):
                for state in lot:
                    self.assertIs(is_settled(web, rules, state), len(lot) == 1)

    def test_errors_in_sequence(self):
        for wrong in STRANGE:
            self.assertIs(error_of(ends, wrong, None)[0], BadWeb)
            self.assertIs(error_of(ends, FRIENDS, wrong)[0], BadRules)
        self.assertEqual(error_of(ends, FRIENDS, ((0, 1), (1, 0))), (BadRules, {"folk": 1}))


if __name__ == "__main__":
    unittest.main()
