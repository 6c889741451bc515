"""Desks: benches led by lines of text."""

import unittest
from random import Random

from helper import (
    CHASE, FRIENDS, MIXED, MIXED_RULES, SELF, SELF_RULES, STRANGE, digits, error_of, outcome, some_rules, some_webs,
    states_by_word,
)
from likespite.benches import Bench
from likespite.desks import Desk
from likespite.errors import BadFolk, BadLine, BadNumber, BadRules, BadState, BadStep, BadWeb

COPY = ((0, 1), (0, 1))
CIRCLE = ((1, 0), (0, 1))
BAD_LINE = (BadLine, {"line": 0})
WORDS = ("tick", "look", "paint", "back", "state", "near", "uneasy", "apart")
# For two folk.
NO_LINES = [
    None, True, False, 0, 1, -1, 10**30, (), ("tick",), ("look", 0), [], ["tick"], {}, {"tick": 1},
    "", " ", "\n", "\t", "x", "ticks", "tic", "do", "done", "none", "0", "0 1", "step", "settle", "held",
    "look", "look ", "look 0 1", "look 0 0", "look x", "look one", "look  0", " look 0", "look 0 ", "look\t0", "look0", "look,0",
    "Look 0", "LOOK 0", "look 00", "look 01", "look 10", "look +0", "look -1", "look 1.", "look 0\n", "look 0\r", "look \u00b2",
    "look \u0661", "look \uff11", "look\u00a00", "look\n0", "look None", "look True", "look 0x",
    "paint", "paint ", "paint 0", "paint 0 ", "paint 0 1 1", "paint 0  1", "paint  0 1", " paint 0 1", "paint 0 1 ", "paint 0\t1",
    "Paint 0 1", "PAINT 0 1", "paint 0 01", "paint 00 1", "paint 0 +1", "paint 0 -1", "paint 0 1\n", "paint x 1", "paint 0 x",
    "paint 0 10", "paint 0,1", "paint 0 \u0661", "paint 0 \u00b2", "paint 0 1 x",
    "apart", "apart ", "apart 0", "apart 1 ", "apart 0 1 0", "apart 0 1 ", "apart  0 1", " apart 0 1", "apart 0  1", "apart 0\t1",
    "Apart 0 1", "APART 0 1", "apart 0 01", "apart 0 +1", "apart -1 0", "apart 0 1\n", "apart x y", "apart 0 10", "apart 01",
    "apart 0 1 1 1", "apart (0, 1)", "apart 0 \u0661",
    "look 0\nlook 1", "tick\ntick", "look 0 tick", "tick look 0", "paint 0 1 back",
]
for word in ("tick", "back", "state", "near", "uneasy"):
    NO_LINES += [
        f"{word} ", f" {word}", f"{word}\n", f"\n{word}", f"{word} 0", f"{word} 0 1", f"{word} {word}", word.upper(), word.title(),
        f"{word}\t", f"{word}\r", f"{word}s", f"{word}  ", f"{word}.", f"{word}0",
    ]


def answer_by_word(bench, line):
    """What a line is answered, asked of a bench by its own methods."""
    word, *rest = line.split()
    numbers = [int(number) for number in rest]
    if word in ("state", "uneasy"):
        return " ".join(str(number) for number in (bench.state if word == "state" else bench.uneasy))
    if word == "near":
        return "none" if bench.near is None else " ".join(str(mood) for mood in bench.near)
    if word == "apart":
        return str(bench.apart(tuple(numbers)))
    {"tick": bench.tick, "look": bench.look, "paint": bench.paint, "back": bench.back}[word](*numbers)
    return "done"


def some_line(random, web, state):
    """A line of the right form by chance, seldom one that a bench refuses."""
    word = random.choice(WORDS)
    folk = random.randrange(len(state))
    if random.random() < 0.05:
        folk = random.randint(0, 9)
    mood = random.randint(0, web[0][folk] if folk < len(state) else 3)
    if random.random() < 0.05:
        mood = random.randint(0, 9)
    other = [random.randint(0, top) for top in web[0]]
    if random.random() < 0.05:
        other[random.randrange(len(other))] = random.randint(0, 9)
    numbers = {"look": [folk], "paint": [folk, mood], "apart": other}.get(word, [])
    return " ".join([word] + [str(number) for number in numbers])


class Examples(unittest.TestCase):
    def test_document(self):
        desk = Desk(FRIENDS, COPY, (0, 1))
        found = [desk.do(line) for line in ("uneasy", "near", "apart 1 1", "look 0", "state", "uneasy")]
        self.assertEqual(found, ["0 1", "0 0", "1", "done", "1 1", ""])
        self.assertEqual(error_of(desk.do, "look"), BAD_LINE)

    def test_by_name(self):
        desk = Desk(state=(0, 1), rules=COPY, web=FRIENDS)
        self.assertEqual(desk.do(line="state"), "0 1")


class Lines(unittest.TestCase):
    def test_each_kind(self):
        desk = Desk(MIXED, MIXED_RULES, (0, 0, 0))
        for line, answer in (
            ("state", "0 0 0"), ("paint 1 3", "done"), ("state", "0 3 0"), ("apart 1 3 2", "2"), ("paint 0 1", "done"),
            ("state", "1 3 0"), ("back", "done"), ("state", "0 3 0"), ("apart 0 3 0", "0"), ("tick", "done"), ("back", "done"),
            ("back", "done"), ("state", "0 0 0"),
        ):
            self.assertEqual(desk.do(line), answer, line)
        self.assertEqual(error_of(desk.do, "back"), (BadStep, {}))

    def test_nobody_uneasy(self):
        desk = Desk(FRIENDS, COPY, (1, 1))
        self.assertEqual([desk.do("uneasy"), desk.do("near"), desk.do("state")], ["", "1 1", "1 1"])

    def test_none_near(self):
        for state in states_by_word(CHASE):
            self.assertEqual(Desk(CHASE, CIRCLE, state).do("near"), "none")
        self.assertEqual(Desk(CHASE, digits("11 01"), (0, 0)).do("near"), "1 1")

    def test_one_and_six(self):
        desk = Desk(((3,), ()), ((2,),), (0,))
        self.assertEqual([desk.do(line) for line in ("state", "uneasy", "near", "apart 0", "apart 3")], ["0", "0", "2", "0", "1"])
        desk = Desk(((1, 2, 3, 1, 2, 3), ()), digits("1 2 3 1 2 3"), (0, 2, 0, 0, 1, 3))
        self.assertEqual([desk.do(line) for line in ("state", "uneasy", "near", "apart 1 1 1 1 1 1", "look 5", "paint 5 0")], [
            "0 2 0 0 1 3", "0 2 3 4", "1 2 3 1 2 3", "5", "done", "done",
        ])
        self.assertEqual(desk.do("state"), "0 2 0 0 1 0")
        for line in ("apart 1 1 1 1 1", "apart 1 1 1 1 1 1 1", "apart"):
            self.assertEqual(error_of(desk.do, line), BAD_LINE)

    def walk(self, random, web, rules):
        """Lines by chance, asked of a desk and of a bench beside it."""
        start = random.choice(states_by_word(web))
        desk, bench = Desk(web, rules, start), Bench(web, rules, start)
        raised = []
        for _ in range(40):
            line = some_line(random, web, bench.state)
            expected = outcome(answer_by_word, bench, line)
            self.assertEqual(outcome(desk.do, line), expected, (web, line))
            if type(expected) is not str:
                raised.append(expected[0])
            self.assertEqual(desk.do("state"), " ".join(str(mood) for mood in bench.state))
        return raised

    def test_by_word(self):
        random = Random(131)
        raised = []
        for web in some_webs(132, 150, most_folk=4, most_of_one=3) + [FRIENDS, CHASE, MIXED, SELF]:
            raised += self.walk(random, web, some_rules(random, web))
        raised += self.walk(random, MIXED, MIXED_RULES) + self.walk(random, SELF, SELF_RULES)
        self.assertEqual(set(raised), {BadFolk, BadNumber, BadStep, BadState})


class Wrong(unittest.TestCase):
    def assert_refused(self, desk, line, expected):
        """A line that is refused, behind which all is as it was."""
        questions = ("state", "uneasy", "near", "apart 0 0")
        before = [desk.do(question) for question in questions]
        with self.subTest(line=line):
            self.assertEqual(error_of(desk.do, line), expected)
            self.assertEqual([desk.do(question) for question in questions], before)

    def test_bad_lines(self):
        desk = Desk(FRIENDS, COPY, (0, 1))
        desk.do("look 0")
        desk.do("paint 1 0")
        for line in NO_LINES + STRANGE:
            self.assert_refused(desk, line, BAD_LINE)
        # Nothing of these is a step to take back.
        for state in ("1 1", "0 1"):
            self.assertEqual(desk.do("back"), "done")
            self.assertEqual(desk.do("state"), state)
        self.assert_refused(desk, "back", (BadStep, {}))

    def test_what_a_bench_refuses(self):
        desk = Desk(FRIENDS, COPY, (0, 1))
        self.assert_refused(desk, "back", (BadStep, {}))
        desk.do("tick")
        for folk in range(2, 10):
            self.assert_refused(desk, f"look {folk}", (BadFolk, {}))
            self.assert_refused(desk, f"paint {folk} 0", (BadFolk, {}))
            self.assert_refused(desk, f"paint {folk} 9", (BadFolk, {}))
            self.assert_refused(desk, f"paint 0 {folk}", (BadNumber, {}))
            self.assert_refused(desk, f"paint 1 {folk}", (BadNumber, {}))
            self.assert_refused(desk, f"apart 0 {folk}", (BadState, {}))
            self.assert_refused(desk, f"apart {folk} 1", (BadState, {}))
        desk.do("back")
        self.assert_refused(desk, "back", (BadStep, {}))
        self.assertEqual(desk.do("state"), "0 1")

    def test_making(self):
        for wrong in STRANGE:
            self.assertIs(error_of(Desk, wrong, None, None)[0], BadWeb)
            self.assertIs(error_of(Desk, FRIENDS, wrong, None)[0], BadRules)
            self.assertEqual(error_of(Desk, FRIENDS, COPY, wrong), (BadState, {}))
        self.assertEqual(error_of(Desk, ((1, 4), ()), COPY, (0, 1)), (BadWeb, {"part": "tops"}))
        self.assertEqual(error_of(Desk, FRIENDS, ((0, 1), (1, 0)), (0, 2)), (BadRules, {"folk": 1}))

    def test_two_desks(self):
        first, second = Desk(FRIENDS, COPY, (0, 1)), Desk(FRIENDS, COPY, (0, 1))
        first.do("look 0")
        self.assertEqual([first.do("state"), second.do("state")], ["1 1", "0 1"])
        self.assertEqual(error_of(second.do, "back"), (BadStep, {}))


if __name__ == "__main__":
    unittest.main()
