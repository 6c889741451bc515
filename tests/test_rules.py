"""What folk do by rules: told, is_settled, settled, run, settled_by."""

import unittest

from helper import (
    CHASE, FRIENDS, LONG, LONG_RULES, LONG_STATE, MIXED, MIXED_RULES, SELF, SELF_RULES, STRANGE, VILLAGES, digits, error_of,
    states_by_word, told_by_word,
)
from likespite.errors import BadFolk, BadNumber, BadState
from likespite.rules import is_settled, run, settled, settled_by, told

COPY = ((0, 1), (0, 1))
CIRCLE = ((1, 0), (0, 1))


def after(web, rules, state):
    """The state a tick later, by the document's words."""
    return tuple(told_by_word(web, rules, state, folk) for folk in range(len(state)))


class Examples(unittest.TestCase):
    def test_document(self):
        self.assertEqual(settled(FRIENDS, COPY), ((0, 0), (1, 1)))
        self.assertIs(is_settled(FRIENDS, COPY, (0, 1)), False)
        self.assertEqual(run(FRIENDS, COPY, (0, 1), 2), ((0, 1), (1, 0), (0, 1)))
        self.assertIsNone(settled_by(FRIENDS, COPY, (0, 1)))
        self.assertEqual(told(FRIENDS, COPY, (0, 1), 0), 1)

    def test_arguments_by_name(self):
        self.assertEqual(told(folk=0, state=(0, 1), rules=COPY, web=FRIENDS), 1)
        self.assertIs(is_settled(state=(1, 1), rules=COPY, web=FRIENDS), True)
        self.assertEqual(settled(rules=COPY, web=FRIENDS), ((0, 0), (1, 1)))
        self.assertEqual(run(ticks=0, state=(1, 1), rules=COPY, web=FRIENDS), ((1, 1),))
        self.assertEqual(settled_by(state=(1, 1), rules=COPY, web=FRIENDS), 0)


class Told(unittest.TestCase):
    def test_by_word(self):
        for web, rules in VILLAGES:
            for state in states_by_word(web):
                for folk in range(len(state)):
                    mood = told(web, rules, state, folk)
                    self.assertEqual(mood, told_by_word(web, rules, state, folk))
                    self.assertIs(type(mood), int)

    def test_sequence_of_rows(self):
        web = ((3, 1, 2), ((0, 2, 1), (1, 2, 1)))
        rules = digits("3 1 00011222")
        moods = [told(web, rules, (first, second, 0), 2) for first in range(4) for second in range(2)]
        self.assertEqual(moods, [0, 0, 0, 1, 1, 2, 2, 2])

    def test_row_with_oneself(self):
        web = ((1, 1, 2), ((0, 1, 1), (1, 1, -1), (2, 1, 1)))
        rules = digits("0 011000111001 1")
        rows = [(first, mood, third) for first in range(2) for mood in range(2) for third in range(3)]
        self.assertEqual([told(web, rules, row, 1) for row in rows], [0, 1, 1, 0, 0, 0, 1, 1, 1, 0, 0, 1])

    def test_nobody(self):
        for state in states_by_word(SELF):
            self.assertEqual(told(SELF, SELF_RULES, state, 0), 1)

    def test_bad_folk(self):
        for wrong in (-1, 2, 3, True, False, None, "0", "", (0,), (), [0], {}, 10**30):
            with self.subTest(wrong=wrong):
                self.assertEqual(error_of(told, FRIENDS, COPY, (0, 1), wrong), (BadFolk, {}))


class Settled(unittest.TestCase):
    def test_by_word(self):
        for web, rules in VILLAGES:
            states = states_by_word(web)
            fixed = tuple(state for state in states if after(web, rules, state) == state)
            self.assertEqual(settled(web, rules), fixed)
            for state in states:
                self.assertIs(is_settled(web, rules, state), state in fixed)

    def test_none_one_and_several(self):
        self.assertEqual(settled(CHASE, CIRCLE), ())
        self.assertEqual(settled(CHASE, digits("11 01")), ((1, 1),))
        self.assertEqual(settled(FRIENDS, digits("00 11")), ((0, 1),))
        self.assertEqual(settled(((3,), ((0, 0, 1),)), ((0, 1, 2, 3),)), ((0,), (1,), (2,), (3,)))
        self.assertEqual(settled(((3,), ((0, 0, 1),)), ((1, 1, 3, 3),)), ((1,), (3,)))
        self.assertEqual(settled(((3,), ((0, 0, -1),)), ((3, 2, 1, 0),)), ())

    def test_ascending(self):
        pairs = ((1, 2, 1, 2), ((0, 2, 1), (1, 3, 1), (2, 0, 1), (3, 1, 1)))
        found = settled(pairs, digits("01 012 01 012"))
        self.assertEqual(found, tuple((a, b, a, b) for a in range(2) for b in range(3)))
        self.assertIsInstance(found, tuple)

    def test_six_folk(self):
        self.assertEqual(settled(LONG, LONG_RULES), ((1, 1, 2, 2, 2, 1),))
        alone = ((3,) * 6, ())
        self.assertEqual(settled(alone, digits("3 0 1 2 3 0")), ((3, 0, 1, 2, 3, 0),))
        still = ((3,) * 6, tuple((folk, folk, 1) for folk in range(6)))
        self.assertEqual(settled(still, digits("0123 " * 6)), tuple(states_by_word(still)))

    def test_settled_for_everybody(self):
        web = ((1, 1, 1), ())
        for state in states_by_word(web):
            self.assertIs(is_settled(web, ((1,), (0,), (1,)), state), state == (1, 0, 1))


class Run(unittest.TestCase):
    def test_by_word(self):
        for web, rules in VILLAGES:
            for state in states_by_word(web):
                states = [state]
                for ticks in range(6):
                    self.assertEqual(run(web, rules, state, ticks), tuple(states))
                    states.append(after(web, rules, states[-1]))

    def test_no_tick_and_one(self):
        self.assertEqual(run(CHASE, CIRCLE, (0, 0), 0), ((0, 0),))
        self.assertEqual(run(CHASE, CIRCLE, (0, 0), 1), ((0, 0), (1, 0)))

    def test_all_at_once(self):
        self.assertEqual(run(CHASE, CIRCLE, (0, 0), 4), ((0, 0), (1, 0), (1, 1), (0, 1), (0, 0)))

    def test_two_hundred_ticks(self):
        states = run(LONG, LONG_RULES, LONG_STATE, 200)
        self.assertEqual([len(states), states[0], states[-1]], [201, LONG_STATE, (2, 2, 3, 2, 1, 3)])
        for now, later in zip(states, states[1:]):
            self.assertEqual(later, after(LONG, LONG_RULES, now))
        self.assertEqual(run(FRIENDS, COPY, (1, 1), 200), ((1, 1),) * 201)

    def test_goes_on_when_settled(self):
        self.assertEqual(run(FRIENDS, digits("00 11"), (1, 0), 3), ((1, 0), (0, 1), (0, 1), (0, 1)))

    def test_bad_number(self):
        for wrong in (-1, 201, 202, 10**30, -(10**30), True, False, None, "1", "", (1,), (), [1], [], {}, {1: 1}):
            with self.subTest(wrong=wrong):
                self.assertEqual(error_of(run, FRIENDS, COPY, (0, 1), wrong), (BadNumber, {}))


class SettledBy(unittest.TestCase):
    def test_by_word(self):
        for web, rules in VILLAGES:
            many = len(states_by_word(web))
            for state in states_by_word(web):
                now, ticks = state, 0
                while after(web, rules, now) != now and ticks <= many:
                    now, ticks = after(web, rules, now), ticks + 1
                self.assertEqual(settled_by(web, rules, state), ticks if ticks <= many else None)

    def test_now(self):
        tick = settled_by(FRIENDS, COPY, (1, 1))
        self.assertEqual(tick, 0)
        self.assertIs(type(tick), int)
        self.assertEqual(settled_by(LONG, LONG_RULES, (1, 1, 2, 2, 2, 1)), 0)

    def test_later(self):
        chain = ((1, 1, 1, 1), ((0, 1, 1), (1, 2, -1), (2, 3, 1)))
        rules = digits("1 01 10 01")
        self.assertEqual([settled_by(chain, rules, state) for state in ((1, 1, 0, 0), (1, 1, 0, 1))], [0, 1])
        self.assertEqual([settled_by(chain, rules, state) for state in ((1, 0, 0, 0), (0, 1, 0, 0))], [3, 4])

    def test_much_later(self):
        self.assertEqual(settled_by(LONG, LONG_RULES, LONG_STATE), 227)
        states = run(LONG, LONG_RULES, LONG_STATE, 200)
        self.assertEqual([settled_by(LONG, LONG_RULES, states[tick]) for tick in (1, 100, 200)], [226, 127, 27])

    def test_never(self):
        self.assertIsNone(settled_by(FRIENDS, COPY, (0, 1)))
        self.assertIsNone(settled_by(CHASE, CIRCLE, (1, 1)))
        self.assertIsNone(settled_by(((1,), ((0, 0, -1),)), ((1, 0),), (0,)))

    def test_never_though_there_is_a_settled_state(self):
        self.assertEqual([settled_by(FRIENDS, COPY, state) for state in ((0, 0), (1, 0))], [0, None])

    def test_never_after_states_that_do_not_come_again(self):
        # 3 to 2 and 1, and these two for ever.
        web = ((3,), ((0, 0, -1),))
        self.assertEqual(run(web, ((2, 2, 1, 1),), (3,), 4), ((3,), (1,), (2,), (1,), (2,)))
        self.assertIsNone(settled_by(web, ((2, 2, 1, 1),), (3,)))


class States(unittest.TestCase):
    def refused(self, web, rules, state):
        with self.subTest(web=web, state=state):
            self.assertEqual(error_of(told, web, rules, state, 0), (BadState, {}))
            self.assertEqual(error_of(is_settled, web, rules, state), (BadState, {}))
            self.assertEqual(error_of(run, web, rules, state, 1), (BadState, {}))
            self.assertEqual(error_of(settled_by, web, rules, state), (BadState, {}))

    def test_lengths(self):
        for state in ((), (0,), (0, 0, 0), (0, 0, 0, 0)):
            self.refused(FRIENDS, COPY, state)
        self.refused(LONG, LONG_RULES, LONG_STATE[:5])
        self.refused(LONG, LONG_RULES, LONG_STATE + (0,))

    def test_no_tuple(self):
        for state in (None, True, 0, 1, "", "01", "0 1", [0, 1], [], {}, {0: 0, 1: 1}):
            self.refused(FRIENDS, COPY, state)

    def test_moods(self):
        for wrong in (-1, 2, 10**30, True, False, None, "0", "", (0,), (), [0], {}):
            self.refused(FRIENDS, COPY, (wrong, 0))
            self.refused(FRIENDS, COPY, (0, wrong))
            self.refused(FRIENDS, COPY, (wrong, wrong))

    def test_each_ones_own_top(self):
        for state in ((2, 0, 0), (0, 4, 0), (0, 0, 3), (3, 1, 2), (1, 2, 3), (2, 3, 1)):
            self.refused(MIXED, MIXED_RULES, state)
        self.assertEqual(run(MIXED, MIXED_RULES, (1, 3, 2), 0), ((1, 3, 2),))

    def test_strange_values(self):
        for value in STRANGE:
            self.refused(FRIENDS, COPY, value)
            self.refused(MIXED, MIXED_RULES, value)


if __name__ == "__main__":
    unittest.main()
