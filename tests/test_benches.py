"""Benches: folk with a state who look again, are painted, and go back."""

import unittest
from random import Random

from helper import (
    CHASE, FRIENDS, LONG, LONG_RULES, LONG_STATE, MIXED, MIXED_RULES, SELF, SELF_RULES, STRANGE, digits, error_of,
    settled_by_word, some_rules, some_webs, states_by_word, told_by_word,
)
from likespite.benches import Bench
from likespite.errors import BadFolk, BadNumber, BadRules, BadState, BadStep, BadWeb

COPY = ((0, 1), (0, 1))
CIRCLE = ((1, 0), (0, 1))
NO_FOLK = (
    True, False, None, -1, -2, 2, 3, 10**30, -(10**30), "0", "1", "", (), (0,), (0, 1), [], [0], {}, {0: 1}, (None,),
)
NO_MOODS = (True, False, None, -1, 2, 3, 10**30, "0", "", (), (0,), [], [1], {}, {1: 0}, ("0",), [None])


def apart_by_word(state, other):
    return sum(1 for mood, other_mood in zip(state, other) if mood != other_mood)


def near_by_word(web, rules, state):
    """All settled states by their distance, then by themselves; the first one."""
    return min(settled_by_word(web, rules), key=lambda other: (apart_by_word(state, other), other), default=None)


def uneasy_by_word(web, rules, state):
    return tuple(folk for folk, mood in enumerate(state) if told_by_word(web, rules, state, folk) != mood)


def tick_by_word(web, rules, state):
    return tuple(told_by_word(web, rules, state, folk) for folk in range(len(state)))


def put(state, folk, mood):
    """A state in which one has another mood."""
    found = list(state)
    found[folk] = mood
    return tuple(found)


class Making(unittest.TestCase):
    def test_document(self):
        bench = Bench(FRIENDS, COPY, (0, 1))
        found = [
            bench.uneasy, bench.near, bench.apart((1, 1)), bench.look(0), bench.state, bench.uneasy, bench.paint(1, 0),
            bench.state, bench.back(), bench.state,
        ]
        self.assertEqual(found, [(0, 1), (0, 0), 1, None, (1, 1), (), None, (1, 0), None, (1, 1)])
        self.assertEqual(error_of(bench.paint, 0, 2), (BadNumber, {}))

    def test_by_name(self):
        bench = Bench(state=(0, 1), rules=COPY, web=FRIENDS)
        self.assertIsNone(bench.look(folk=1))
        self.assertEqual(bench.state, (0, 0))
        self.assertIsNone(bench.paint(mood=1, folk=0))
        self.assertEqual(bench.state, (1, 0))
        self.assertEqual(bench.apart(other=(1, 1)), 1)

    def test_errors_in_sequence(self):
        for wrong in STRANGE:
            with self.subTest(wrong=wrong):
                self.assertIs(error_of(Bench, wrong, None, None)[0], BadWeb)
                self.assertIs(error_of(Bench, wrong, COPY, (0, 1))[0], BadWeb)
                self.assertIs(error_of(Bench, FRIENDS, wrong, None)[0], BadRules)
                self.assertIs(error_of(Bench, FRIENDS, wrong, (0, 1))[0], BadRules)
                self.assertEqual(error_of(Bench, FRIENDS, COPY, wrong), (BadState, {}))
        self.assertEqual(error_of(Bench, ((1, 4), ()), COPY, (0, 1)), (BadWeb, {"part": "tops"}))
        self.assertEqual(error_of(Bench, ((1, 1), ((0, 2, 1),)), COPY, (0, 1)), (BadWeb, {"part": "looks"}))
        self.assertEqual(error_of(Bench, FRIENDS, ((0, 1), (1, 0)), (0, 2)), (BadRules, {"folk": 1}))
        for wrong in ((0, 2), (0, -1), (0, True), (0,), (0, 1, 0), [0, 1], "0 1", (0, None)):
            self.assertEqual(error_of(Bench, FRIENDS, COPY, wrong), (BadState, {}))

    def test_attributes_from_the_beginning(self):
        bench = Bench(MIXED, MIXED_RULES, (1, 2, 0))
        self.assertEqual(bench.state, (1, 2, 0))
        self.assertEqual(bench.uneasy, uneasy_by_word(MIXED, MIXED_RULES, (1, 2, 0)))
        self.assertEqual(bench.near, near_by_word(MIXED, MIXED_RULES, (1, 2, 0)))
        for found in (bench.state, bench.uneasy, bench.near):
            self.assertIs(type(found), tuple)


class Steps(unittest.TestCase):
    def test_tick(self):
        bench = Bench(FRIENDS, COPY, (0, 1))
        self.assertIsNone(bench.tick())
        self.assertEqual(bench.state, (1, 0))
        bench.tick()
        self.assertEqual(bench.state, (0, 1))

    def test_look_is_one_alone(self):
        for folk, state in ((0, (1, 1)), (1, (0, 0))):
            bench = Bench(FRIENDS, COPY, (0, 1))
            self.assertIsNone(bench.look(folk))
            self.assertEqual(bench.state, state)

    def test_look_at_oneself(self):
        web, rules = ((3,), ((0, 0, -1),)), ((3, 2, 2, 0),)
        for mood, told in enumerate((3, 2, 2, 0)):
            bench = Bench(web, rules, (mood,))
            self.assertEqual(bench.uneasy, () if mood == told else (0,))
            bench.look(0)
            self.assertEqual(bench.state, (told,))
            self.assertEqual(bench.near, (2,))

    def test_nobody_to_look_at(self):
        bench = Bench(((3, 2), ()), ((2,), (1,)), (0, 0))
        self.assertEqual(bench.uneasy, (0, 1))
        bench.look(1)
        self.assertEqual((bench.state, bench.uneasy, bench.near), ((0, 1), (0,), (2, 1)))
        bench.tick()
        self.assertEqual((bench.state, bench.uneasy, bench.near), ((2, 1), (), (2, 1)))

    def test_paint(self):
        bench = Bench(MIXED, MIXED_RULES, (0, 0, 0))
        for folk, mood, state in ((1, 3, (0, 3, 0)), (2, 2, (0, 3, 2)), (0, 1, (1, 3, 2)), (1, 0, (1, 0, 2))):
            self.assertIsNone(bench.paint(folk, mood))
            self.assertEqual(bench.state, state)

    def test_long(self):
        bench = Bench(LONG, LONG_RULES, LONG_STATE)
        near = settled_by_word(LONG, LONG_RULES)
        ticks = 0
        while bench.uneasy:
            bench.tick()
            ticks += 1
        self.assertEqual((ticks, bench.state, bench.near), (227, near[0], near[0]))
        for _ in range(227):
            bench.back()
        self.assertEqual(bench.state, LONG_STATE)
        self.assertEqual(error_of(bench.back), (BadStep, {}))

    def assert_as(self, bench, web, rules, state):
        """All that can be asked, against the document's words."""
        self.assertEqual(bench.state, state)
        self.assertEqual(bench.uneasy, uneasy_by_word(web, rules, state))
        self.assertEqual(bench.near, near_by_word(web, rules, state))
        for found in (bench.state, bench.uneasy):
            self.assertIs(type(found), tuple)

    def walk(self, random, web, rules):
        """Steps by chance, those to which one may go back written down beside the bench."""
        states = [random.choice(states_by_word(web))]
        bench = Bench(web, rules, states[0])
        for _ in range(12):
            now, folk = states[-1], random.randrange(len(web[0]))
            action = random.choice(("tick", "look", "paint", "paint", "back"))
            if action == "tick":
                self.assertIsNone(bench.tick())
                states.append(tick_by_word(web, rules, now))
            elif action == "look":
                self.assertIsNone(bench.look(folk))
                states.append(put(now, folk, told_by_word(web, rules, now, folk)))
            elif action == "paint":
                mood = random.randint(0, web[0][folk])
                self.assertIsNone(bench.paint(folk, mood))
                states.append(put(now, folk, mood))
            elif len(states) > 1:
                self.assertIsNone(bench.back())
                states.pop()
            else:
                self.assertEqual(error_of(bench.back), (BadStep, {}))
            self.assert_as(bench, web, rules, states[-1])
            other = random.choice(states_by_word(web))
            self.assertEqual(bench.apart(other), apart_by_word(states[-1], other))
        for state in states[-2::-1]:
            bench.back()
            self.assert_as(bench, web, rules, state)
        self.assertEqual(error_of(bench.back), (BadStep, {}))
        self.assert_as(bench, web, rules, states[0])

    def test_by_word(self):
        random = Random(61)
        for web in some_webs(62, 120, most_folk=4, most_of_one=3) + [FRIENDS, CHASE, MIXED, SELF]:
            self.walk(random, web, some_rules(random, web))
        self.walk(random, MIXED, MIXED_RULES)
        self.walk(random, SELF, SELF_RULES)

    def test_each_step_by_word(self):
        for web, rules in ((MIXED, MIXED_RULES), (SELF, SELF_RULES), (FRIENDS, COPY), (CHASE, CIRCLE)):
            for state in states_by_word(web):
                bench = Bench(web, rules, state)
                self.assert_as(bench, web, rules, state)
                bench.tick()
                self.assertEqual(bench.state, tick_by_word(web, rules, state))
                bench.back()
                for folk, top in enumerate(web[0]):
                    bench.look(folk)
                    self.assertEqual(bench.state, put(state, folk, told_by_word(web, rules, state, folk)))
                    bench.back()
                    for mood in range(top + 1):
                        bench.paint(folk, mood)
                        self.assertEqual(bench.state, put(state, folk, mood))
                        bench.back()
                self.assertEqual(bench.state, state)
                self.assertEqual(error_of(bench.back), (BadStep, {}))


class Back(unittest.TestCase):
    def test_none(self):
        bench = Bench(FRIENDS, COPY, (0, 1))
        for _ in range(3):
            self.assertEqual(error_of(bench.back), (BadStep, {}))
            self.assertEqual(bench.state, (0, 1))

    def test_one_by_one(self):
        bench = Bench(FRIENDS, COPY, (0, 1))
        bench.tick()
        bench.look(0)
        bench.paint(1, 1)
        self.assertEqual(bench.state, (0, 1))
        for state in ((0, 0), (1, 0), (0, 1)):
            self.assertIsNone(bench.back())
            self.assertEqual(bench.state, state)
        self.assertEqual(error_of(bench.back), (BadStep, {}))
        self.assertEqual(bench.state, (0, 1))

    def test_steps_that_change_no_mood(self):
        bench = Bench(FRIENDS, COPY, (0, 1))
        bench.paint(0, 1)
        steps = (bench.tick, lambda: bench.look(0), lambda: bench.look(1), lambda: bench.paint(0, 1))
        for step in steps:
            step()
            self.assertEqual(bench.state, (1, 1))
        for _ in steps:
            bench.back()
            self.assertEqual(bench.state, (1, 1))
        bench.back()
        self.assertEqual(bench.state, (0, 1))
        self.assertEqual(error_of(bench.back), (BadStep, {}))
        for step in steps:
            calm = Bench(FRIENDS, COPY, (1, 1))
            calm.paint(1, 1)
            self.assertIsNone(calm.back())
            self.assertEqual(error_of(calm.back), (BadStep, {}))

    def test_first_step_that_changes_no_mood(self):
        for step in (lambda bench: bench.tick(), lambda bench: bench.look(1), lambda bench: bench.paint(1, 1)):
            bench = Bench(FRIENDS, COPY, (1, 1))
            step(bench)
            self.assertIsNone(bench.back())
            self.assertEqual(error_of(bench.back), (BadStep, {}))

    def test_going_on_behind_it(self):
        bench = Bench(FRIENDS, COPY, (0, 1))
        bench.look(0)
        bench.back()
        bench.look(1)
        self.assertEqual(bench.state, (0, 0))
        bench.back()
        self.assertEqual(bench.state, (0, 1))
        self.assertEqual(error_of(bench.back), (BadStep, {}))

    def test_questions_are_not_taken_back(self):
        bench = Bench(FRIENDS, COPY, (0, 1))
        bench.look(0)
        self.assertEqual((bench.state, bench.uneasy, bench.near, bench.apart((0, 0))), ((1, 1), (), (1, 1), 2))
        bench.back()
        self.assertEqual((bench.state, bench.uneasy, bench.near, bench.apart((0, 0))), ((0, 1), (0, 1), (0, 0), 1))
        self.assertEqual(error_of(bench.back), (BadStep, {}))


class Wrong(unittest.TestCase):
    def refused(self, bench, name, values, expected):
        """A call that is refused, behind which the state and the steps to take back are what they were."""
        before = bench.state
        with self.subTest(name=name, values=values):
            self.assertEqual(error_of(getattr(bench, name), *values), expected)
            self.assertEqual(bench.state, before)

    def test_refused_calls_change_nothing(self):
        bench = Bench(FRIENDS, COPY, (0, 1))
        bench.look(0)
        bench.paint(1, 0)
        for wrong in NO_FOLK:
            self.refused(bench, "look", (wrong,), (BadFolk, {}))
            self.refused(bench, "paint", (wrong, 0), (BadFolk, {}))
            for mood in NO_MOODS:
                self.refused(bench, "paint", (wrong, mood), (BadFolk, {}))
        for wrong in NO_MOODS:
            self.refused(bench, "paint", (0, wrong), (BadNumber, {}))
            self.refused(bench, "paint", (1, wrong), (BadNumber, {}))
        for wrong in STRANGE + [(0, 2), (0,), (0, 1, 0), (True, 0), (0, -1), [0, 1], "0 1", "01", (0, "1")]:
            self.refused(bench, "apart", (wrong,), (BadState, {}))
        for state in ((1, 1), (0, 1)):
            bench.back()
            self.assertEqual(bench.state, state)
        self.assertEqual(error_of(bench.back), (BadStep, {}))

    def test_strange(self):
        for wrong in STRANGE:
            bench = Bench(FRIENDS, COPY, (0, 1))
            self.refused(bench, "look", (wrong,), (BadFolk, {}))
            self.refused(bench, "paint", (wrong, wrong), (BadFolk, {}))
            self.refused(bench, "paint", (0, wrong), (BadNumber, {}))

    def test_moods_of_each(self):
        bench = Bench(((1, 2, 3), ()), ((0,), (0,), (0,)), (0, 0, 0))
        for folk, top in enumerate((1, 2, 3)):
            self.assertIsNone(error_of(bench.paint, folk, top))
            self.refused(bench, "paint", (folk, top + 1), (BadNumber, {}))
        self.assertEqual(bench.state, (1, 2, 3))
        self.assertEqual(error_of(bench.look, 2), None)
        self.refused(bench, "look", (3,), (BadFolk, {}))
        self.refused(bench, "paint", (3, 0), (BadFolk, {}))
        self.assertEqual(error_of(bench.apart, (1, 2, 3)), None)
        self.refused(bench, "apart", ((1, 2, 4),), (BadState, {}))


class Uneasy(unittest.TestCase):
    def test_nobody_some_all(self):
        rules = digits("1 2 3")
        for state, uneasy in (((1, 2, 3), ()), ((1, 2, 2), (2,)), ((0, 2, 0), (0, 2)), ((0, 0, 0), (0, 1, 2))):
            self.assertEqual(Bench(((1, 2, 3), ()), rules, state).uneasy, uneasy)


class Near(unittest.TestCase):
    def test_none(self):
        self.assertEqual(settled_by_word(CHASE, CIRCLE), ())
        for state in states_by_word(CHASE):
            self.assertIsNone(Bench(CHASE, CIRCLE, state).near)

    def test_one(self):
        for state in states_by_word(CHASE):
            self.assertEqual(Bench(CHASE, digits("11 01"), state).near, (1, 1))

    def test_several(self):
        # Settled are (0, 0) and (1, 1), at the same distance from the two others.
        for state, near in (((0, 0), (0, 0)), ((0, 1), (0, 0)), ((1, 0), (0, 0)), ((1, 1), (1, 1))):
            self.assertEqual(Bench(FRIENDS, COPY, state).near, near)

    def test_fewest_ahead_of_least(self):
        # Settled are (0, 0, 0) and (1, 1, 1): two of three tell which one is nearer.
        web = ((1, 1, 1), ((0, 1, 1), (0, 2, 1), (2, 0, 1)))
        rules = digits("01 01 01")
        self.assertEqual(settled_by_word(web, rules), ((0, 0, 0), (1, 1, 1)))
        for state in states_by_word(web):
            self.assertEqual(Bench(web, rules, state).near, (1, 1, 1) if sum(state) > 1 else (0, 0, 0))

    def test_number_of_folk_not_of_moods(self):
        # Everybody likes themselves: all states of 0 and 3 are settled; a mood apart is one, however far.
        web = ((3, 3), ((0, 0, 1), (1, 1, 1)))
        rules = digits("0003 0003")
        for state, near in (((2, 2), (0, 0)), ((2, 3), (0, 3)), ((3, 1), (3, 0)), ((3, 3), (3, 3)), ((0, 2), (0, 0))):
            self.assertEqual(Bench(web, rules, state).near, near)


class Several(unittest.TestCase):
    def test_two_benches(self):
        first, second = Bench(FRIENDS, COPY, (0, 1)), Bench(FRIENDS, COPY, (0, 1))
        first.tick()
        first.paint(0, 0)
        self.assertEqual((first.state, second.state), ((0, 0), (0, 1)))
        self.assertEqual(error_of(second.back), (BadStep, {}))
        second.look(0)
        self.assertEqual((first.state, second.state), ((0, 0), (1, 1)))
        first.back()
        first.back()
        self.assertEqual((first.state, second.state), ((0, 1), (1, 1)))
        self.assertEqual(error_of(first.back), (BadStep, {}))
        second.back()
        self.assertEqual(second.state, (0, 1))

    def test_same_folk_other_rules(self):
        first, second = Bench(FRIENDS, COPY, (0, 1)), Bench(FRIENDS, digits("11 00"), (0, 1))
        first.tick()
        second.tick()
        self.assertEqual((first.state, first.near), ((1, 0), (0, 0)))
        self.assertEqual((second.state, second.near), ((1, 0), (1, 0)))


if __name__ == "__main__":
    unittest.main()
