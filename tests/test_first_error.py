"""Which error is raised where several arguments are wrong, and that arguments stay as they are."""

import copy
import unittest
from itertools import product

from helper import FRIENDS, MIXED, MIXED_RULES, error_of
from likespite.errors import BadFolk, BadNumber, BadRules, BadState, BadWeb
from likespite.rules import is_settled, run, settled, settled_by, told
from likespite.webs import looked_at

FUNCTIONS = (
    (looked_at, ("web", "folk")),
    (told, ("web", "rules", "state", "folk")),
    (is_settled, ("web", "rules", "state")),
    (settled, ("web", "rules")),
    (run, ("web", "rules", "state", "ticks")),
    (settled_by, ("web", "rules", "state")),
)
COPY = ((0, 1), (0, 1))
# For each argument a value that is allowed, then wrong ones with the error of each.
CHOICES = {
    "web": (
        (FRIENDS, None),
        (None, (BadWeb, {"part": "web"})),
        ([(1, 1), ()], (BadWeb, {"part": "web"})),
        (((1, 4), FRIENDS[1]), (BadWeb, {"part": "tops"})),
        (((1, True), ((0, 0, 0),)), (BadWeb, {"part": "tops"})),
        (((1, 1), ((0, 1, 1), (0, 1, -1))), (BadWeb, {"part": "looks"})),
    ),
    "rules": (
        (COPY, None),
        (None, (BadRules, {"folk": None})),
        ([[0, 1], [0, 1]], (BadRules, {"folk": None})),
        (((0, 1),), (BadRules, {"folk": None})),
        (((1, 0), (1, 0)), (BadRules, {"folk": 0})),
        (((0, 1), (0, True)), (BadRules, {"folk": 1})),
    ),
    "state": (
        ((0, 1), None),
        (None, (BadState, {})),
        ([0, 1], (BadState, {})),
        ((0, 2), (BadState, {})),
    ),
    "folk": (
        (0, None),
        (True, (BadFolk, {})),
        (2, (BadFolk, {})),
        ([0], (BadFolk, {})),
    ),
    "ticks": (
        (1, None),
        (True, (BadNumber, {})),
        (201, (BadNumber, {})),
        ({}, (BadNumber, {})),
    ),
}


class FirstError(unittest.TestCase):
    def test_leftmost(self):
        for function, names in FUNCTIONS:
            for chosen in product(*[CHOICES[name] for name in names]):
                values = [value for value, _ in chosen]
                expected = next((error for _, error in chosen if error is not None), None)
                with self.subTest(function=function.__name__, values=values):
                    self.assertEqual(error_of(function, *values), expected)

    def test_what_is_wrong_for_this_web_alone(self):
        self.assertEqual(error_of(told, MIXED, COPY, (0, 1), 3), (BadRules, {"folk": None}))
        self.assertEqual(error_of(told, MIXED, MIXED_RULES, (0, 1), 3), (BadState, {}))
        self.assertEqual(error_of(told, MIXED, MIXED_RULES, (0, 1, 1), 3), (BadFolk, {}))
        self.assertEqual(error_of(told, MIXED, MIXED_RULES, (0, 1, 1), 2), None)

    def test_arguments_stay(self):
        for function, names in FUNCTIONS:
            for chosen in product(*[CHOICES[name] for name in names]):
                values = [value for value, _ in chosen]
                kept = copy.deepcopy(values)
                error_of(function, *values)
                self.assertEqual(values, kept)

    def test_equal_arguments_have_equal_answers(self):
        for function, names in FUNCTIONS:
            values = [CHOICES[name][0][0] for name in names]
            first = function(*values)
            self.assertEqual(function(*copy.deepcopy(values)), first)


if __name__ == "__main__":
    unittest.main()
