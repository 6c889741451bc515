"""Which error is raised where several arguments are wrong, and that arguments stay as they are."""

import copy
import unittest
from itertools import combinations, product

from helper import CHASE, FRIENDS, MIXED, MIXED_RULES, STRANGE, error_of
from likespite.benches import Bench
from likespite.chains import depth, depths
from likespite.counts import count_rules, settled_counts, tables
from likespite.desks import Desk
from likespite.errors import (
    BadFolk, BadHeld, BadLine, BadLot, BadNumber, BadRing, BadRules, BadState, BadStep, BadWeb, BadWord, HasOdd, HasRing,
    NoEven, NoOdd,
)
from likespite.holds import deciders, decides, held_states, holders
from likespite.pins import bound, bound_lot, cuts, pins
from likespite.rings import (
    at_least_one, at_most_one, even_ring, is_even, just_one, odd_ring, parts, rings, shows_even_ring, shows_odd_ring,
)
from likespite.rules import is_settled, run, settled, settled_by, told
from likespite.sides import high, low, sides
from likespite.signs import exchanged, exchanges, rings_through
from likespite.spoils import mute, twofold
from likespite.steps import come_to, ends, looks_to, shows_looks_to
from likespite.tales import pair_by, ring_tale, rules_by
from likespite.texts import read_rules, read_state, read_web, rules_text, state_text, web_text
from likespite.turns import turned, turned_rules, turned_state
from likespite.webs import looked_at


def bench_look(web, rules, state, folk):
    """A bench's state behind a look."""
    bench = Bench(web, rules, state)
    bench.look(folk)
    return bench.state, bench.uneasy, bench.near


def bench_paint(web, rules, state, folk, mood):
    """A bench's state behind a painting."""
    bench = Bench(web, rules, state)
    bench.paint(folk, mood)
    return bench.state


def bench_apart(web, rules, state, other):
    """How many are apart on a bench, behind a tick."""
    bench = Bench(web, rules, state)
    bench.tick()
    return bench.apart(other)


def bench_back(web, rules, state):
    """A bench's state behind a step back."""
    bench = Bench(web, rules, state)
    bench.back()
    return bench.state


def desk_do(web, rules, state, line):
    """What a desk answers, and its state then."""
    desk = Desk(web, rules, state)
    return desk.do(line), desk.do("state")


# Functions with the names of their arguments, one of CHOICES each.
FUNCTIONS = (
    (looked_at, ("web", "folk")),
    (told, ("web", "rules", "state", "folk")),
    (is_settled, ("web", "rules", "state")),
    (settled, ("web", "rules")),
    (run, ("web", "rules", "state", "ticks")),
    (settled_by, ("web", "rules", "state")),
    (rings, ("web",)),
    (is_even, ("web", "ring")),
    (even_ring, ("web",)),
    (odd_ring, ("web",)),
    (shows_even_ring, ("web", "value")),
    (shows_odd_ring, ("web", "value")),
    (at_most_one, ("web",)),
    (at_least_one, ("web",)),
    (just_one, ("web",)),
    (parts, ("web",)),
    (sides, ("web",)),
    (low, ("web", "rules")),
    (low, ("knot", "knot rules")),
    (high, ("web", "rules")),
    (high, ("knot", "knot rules")),
    (twofold, ("web",)),
    (twofold, ("knot",)),
    (mute, ("web",)),
    (mute, ("knot",)),
    (depths, ("web",)),
    (depths, ("chain",)),
    (depth, ("web",)),
    (depth, ("chain",)),
    (pins, ("web",)),
    (bound, ("web",)),
    (bound_lot, ("web",)),
    (cuts, ("web", "word")),
    (turned, ("web", "lot")),
    (turned_state, ("web", "state", "lot")),
    (turned_rules, ("web", "rules", "lot")),
    (tables, ("web", "folk")),
    (count_rules, ("web",)),
    (settled_counts, ("web",)),
    (bench_look, ("web", "rules", "state", "folk")),
    (bench_paint, ("web", "rules", "state", "folk", "mood")),
    (bench_apart, ("web", "rules", "state", "state")),
    (bench_back, ("web", "rules", "state")),
    (web_text, ("web",)),
    (rules_text, ("web", "rules")),
    (state_text, ("web", "state")),
    (read_web, ("web's text",)),
    (read_rules, ("web", "rules' text")),
    (read_state, ("web", "state's text")),
    (rules_by, ("web", "ring")),
    (pair_by, ("web", "ring")),
    (pair_by, ("chase", "ring")),
    (ring_tale, ("web", "ring")),
    (held_states, ("web", "rules", "held")),
    (holders, ("web", "rules", "state")),
    (decides, ("web", "lot")),
    (deciders, ("web",)),
    (come_to, ("web", "rules", "state")),
    (looks_to, ("web", "rules", "state", "state")),
    (shows_looks_to, ("web", "rules", "state", "state", "value")),
    (ends, ("web", "rules")),
    (exchanged, ("web", "lot")),
    (exchanges, ("web", "word of two")),
    (rings_through, ("web",)),
    (desk_do, ("web", "rules", "state", "line")),
)
SHOWS = (
    (shows_even_ring, (FRIENDS,)),
    (shows_even_ring, (CHASE,)),
    (shows_odd_ring, (FRIENDS,)),
    (shows_odd_ring, (CHASE,)),
    (shows_looks_to, (FRIENDS, ((0, 1), (0, 1)), (0, 1), (1, 1))),
    (shows_looks_to, (FRIENDS, ((0, 1), (0, 1)), (1, 1), (0, 1))),
    (shows_looks_to, (FRIENDS, ((0, 1), (0, 1)), (1, 1), (1, 1))),
)
# The errors that come behind those of all arguments.
BEHIND = {
    (low, "knot"): HasOdd,
    (high, "knot"): HasOdd,
    (twofold, "knot"): NoEven,
    (mute, "web"): NoOdd,
    (depths, "web"): HasRing,
    (depth, "web"): HasRing,
    (pair_by, "chase"): NoEven,
    (bench_back, "web"): BadStep,
}
COPY = ((0, 1), (0, 1))
# For each argument a value that is allowed, then wrong ones with the error of each.
CHOICES = {
    "web": (
        (FRIENDS, None),
        (None, (BadWeb, {"part": "web"})),
        ([(1, 1), ()], (BadWeb, {"part": "web"})),
        (((1, 4), FRIENDS[1]), (BadWeb, {"part": "tops"})),
        (((1, True), ((0, 0, 0),)), (BadWeb, {"part": "tops"})),
        (((1, 1), ((0, 1, 1), (0, 1, -1))), (BadWeb, {"part": "looks"})),
    ),
    "rules": (
        (COPY, None),
        (None, (BadRules, {"folk": None})),
        ([[0, 1], [0, 1]], (BadRules, {"folk": None})),
        (((0, 1),), (BadRules, {"folk": None})),
        (((1, 0), (1, 0)), (BadRules, {"folk": 0})),
        (((0, 1), (0, True)), (BadRules, {"folk": 1})),
    ),
    "state": (
        ((0, 1), None),
        (None, (BadState, {})),
        ([0, 1], (BadState, {})),
        ((0, 2), (BadState, {})),
    ),
    "folk": (
        (0, None),
        (True, (BadFolk, {})),
        (2, (BadFolk, {})),
        ([0], (BadFolk, {})),
    ),
    "mood": (
        (1, None),
        (True, (BadNumber, {})),
        (2, (BadNumber, {})),
        ((1,), (BadNumber, {})),
    ),
    "ticks": (
        (1, None),
        (True, (BadNumber, {})),
        (201, (BadNumber, {})),
        ({}, (BadNumber, {})),
    ),
    "ring": (
        ((0, 1), None),
        (None, (BadRing, {})),
        ([0, 1], (BadRing, {})),
        ((1, 0), (BadRing, {})),
        ((0, True), (BadRing, {})),
    ),
    "value": (
        ((0, 1), None),
        (None, None),
        ([0, [1]], None),
        ({"ring": (0, 1)}, None),
    ),
    "lot": (
        ((0, 1), None),
        (None, (BadLot, {})),
        ([0, 1], (BadLot, {})),
        ((1, 0), (BadLot, {})),
        ((0, True), (BadLot, {})),
    ),
    "word": (
        ("any", None),
        (None, (BadWord, {})),
        ("Odd", (BadWord, {})),
        (["odd"], (BadWord, {})),
    ),
    "web's text": (
        ("folk 1 1\nlook 1 at 0 liking\n", None),
        (None, (BadLine, {"line": 0})),
        ("folk 1 1\nlook 1 at 0 liking", (BadLine, {"line": 1})),
        (["folk 1\n"], (BadLine, {"line": 0})),
    ),
    "rules' text": (
        ("0 tells 0 1\n1 tells 0 1\n", None),
        (None, (BadLine, {"line": 0})),
        ("0 tells 0 1\n1 tells 1 0\n", (BadLine, {"line": 1})),
        ("0 tells 0 1\n1 tells 0 1\n\n", (BadLine, {"line": 2})),
        (COPY, (BadLine, {"line": 0})),
    ),
    "state's text": (
        ("0 1", None),
        (None, (BadLine, {"line": 0})),
        ("0 2", (BadLine, {"line": 0})),
        ((0, 1), (BadLine, {"line": 0})),
    ),
    "chase": (
        (CHASE, None),
        (None, (BadWeb, {"part": "web"})),
        ((CHASE[0], CHASE[1][::-1]), (BadWeb, {"part": "looks"})),
    ),
    "held": (
        (((0, 1),), None),
        (None, (BadHeld, {})),
        ([(0, 1)], (BadHeld, {})),
        (((0, 2),), (BadHeld, {})),
        (((1, 0), (0, 0)), (BadHeld, {})),
    ),
    "word of two": (
        ("odd", None),
        ("any", (BadWord, {})),
        (None, (BadWord, {})),
        (["odd"], (BadWord, {})),
    ),
    "line": (
        ("paint 0 1", None),
        (None, (BadLine, {"line": 0})),
        ("paint 9", (BadLine, {"line": 0})),
        (["tick"], (BadLine, {"line": 0})),
        ("paint 9 9", (BadFolk, {})),
        ("paint 0 9", (BadNumber, {})),
        ("apart 0 9", (BadState, {})),
        ("back", (BadStep, {})),
    ),
    "chain": (
        (((1, 2), ((1, 0, -1),)), None),
        ([], (BadWeb, {"part": "web"})),
        (((1, 2), ((1, 0),)), (BadWeb, {"part": "looks"})),
    ),
    "knot": (
        (((1,), ((0, 0, -1),)), None),
        (None, (BadWeb, {"part": "web"})),
        (((1,), ((0, 0, -1.0),)), (BadWeb, {"part": "looks"})),
    ),
    "knot rules": (
        (((1, 0),), None),
        (None, (BadRules, {"folk": None})),
        (((0, 1),), (BadRules, {"folk": 0})),
    ),
}
# The class of the error of a value that is no such argument at all, None where there is no error.
KINDS = {
    "web": BadWeb, "knot": BadWeb, "chain": BadWeb, "chase": BadWeb, "rules": BadRules, "knot rules": BadRules,
    "state": BadState, "folk": BadFolk, "mood": BadNumber, "ticks": BadNumber, "ring": BadRing, "value": None,
    "lot": BadLot, "word": BadWord, "word of two": BadWord, "held": BadHeld, "line": BadLine, "web's text": BadLine,
    "rules' text": BadLine, "state's text": BadLine,
}


def kind_of_error(name, value):
    """The class of the error of a strange value."""
    # The tuple of nothing is a lot of nobody, and tells that nobody is held.
    if name in ("lot", "held") and type(value) is tuple and value == ():
        return None
    return KINDS[name]


def first_error(function, names, chosen):
    """The leftmost argument's error, the one that comes behind all if there is none."""
    behind = BEHIND.get((function, names[0]))
    errors = [error for _, error in chosen if error is not None]
    return (errors + [behind and (behind, {})])[0]


class FirstError(unittest.TestCase):
    def test_leftmost(self):
        for function, names in FUNCTIONS:
            for chosen in product(*[CHOICES[name] for name in names]):
                values = [value for value, _ in chosen]
                expected = first_error(function, names, chosen)
                with self.subTest(function=function.__name__, values=values):
                    self.assertEqual(error_of(function, *values), expected)

    def test_each_strange_value(self):
        for function, names in FUNCTIONS:
            right = [CHOICES[name][0][0] for name in names]
            behind = BEHIND.get((function, names[0]))
            for at, name in enumerate(names):
                for strange in STRANGE:
                    values = right[:at] + [strange] + right[at + 1:]
                    found = error_of(function, *values)
                    with self.subTest(function=function.__name__, values=values):
                        self.assertIs(found and found[0], kind_of_error(name, strange) or behind)

    def test_two_strange_values(self):
        for function, names in FUNCTIONS:
            right = [CHOICES[name][0][0] for name in names]
            for at, other in combinations(range(len(names)), 2):
                for first, second in product(STRANGE, STRANGE[::4]):
                    values = list(right)
                    values[at], values[other] = first, second
                    expected = kind_of_error(names[at], first) or kind_of_error(names[other], second)
                    found = error_of(function, *values)
                    self.assertIs(found and found[0], expected or BEHIND.get((function, names[0])), (function, values))

    def test_what_is_wrong_for_this_web_alone(self):
        self.assertEqual(error_of(told, MIXED, COPY, (0, 1), 3), (BadRules, {"folk": None}))
        self.assertEqual(error_of(told, MIXED, MIXED_RULES, (0, 1), 3), (BadState, {}))
        self.assertEqual(error_of(told, MIXED, MIXED_RULES, (0, 1, 1), 3), (BadFolk, {}))
        self.assertEqual(error_of(told, MIXED, MIXED_RULES, (0, 1, 1), 2), None)

    def test_shows_tells_of_any_value(self):
        values = STRANGE + [[value] for value in STRANGE] + [(value,) for value in STRANGE] + [
            {"ring": value} for value in STRANGE
        ] + [(0, value) for value in STRANGE] + [(0, 1), (0,), (1,), (1, 0), (0, 1, 0)]
        for function, arguments in SHOWS:
            told = [function(*arguments, value) for value in values]
            self.assertTrue(all(answer is True or answer is False for answer in told))
            self.assertEqual(told.count(True), 1, (function, arguments))

    def test_arguments_stay(self):
        for function, names in FUNCTIONS:
            for chosen in product(*[CHOICES[name] for name in names]):
                values = [value for value, _ in chosen]
                kept = copy.deepcopy(values)
                error_of(function, *values)
                self.assertEqual(values, kept)

    def test_equal_arguments_have_equal_answers(self):
        for function, names in FUNCTIONS:
            values = [CHOICES[name][0][0] for name in names]
            if (function, names[0]) not in BEHIND:
                first = function(*values)
                self.assertEqual(function(*copy.deepcopy(values)), first)


if __name__ == "__main__":
    unittest.main()
