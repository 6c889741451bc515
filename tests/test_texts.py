"""Webs, rules and states as texts, and such texts read."""

import re
import unittest
from random import Random

from helper import (
    CHASE, FRIENDS, LONG, LONG_RULES, LONG_STATE, MIXED, MIXED_RULES, SELF, SELF_RULES, STRANGE, digits, error_of,
    outcome, rows_by_word, some_rules, some_webs, states_by_word, table_by_word,
)
from likespite.errors import BadLine, BadRules, BadState, BadWeb
from likespite.texts import read_rules, read_state, read_web, rules_text, state_text, web_text

SIX = ((1, 2, 3, 1, 2, 3), tuple(sorted(
    (one, other, 1 if one < other else -1)
    for one, other in (
        (0, 0), (1, 0), (2, 0), (3, 0), (0, 1), (1, 1), (4, 1), (5, 1), (0, 2), (5, 2), (0, 3), (4, 4), (2, 5), (3, 5),
    )
)))
SIX_TEXT = (
    "folk 1 2 3 1 2 3\n"
    "look 0 at 0 spite\nlook 1 at 0 liking\nlook 2 at 0 liking\nlook 3 at 0 liking\n"
    "look 0 at 1 spite\nlook 1 at 1 spite\n"
    "look 0 at 2 spite\nlook 5 at 2 liking\n"
    "look 0 at 3 spite\nlook 5 at 3 liking\n"
    "look 1 at 4 spite\nlook 4 at 4 spite\n"
    "look 1 at 5 spite\nlook 2 at 5 spite\n"
)
# Neither strings nor allowed for any other argument.
NO_STRINGS = [
    None, True, False, 0, 1, -1, 10**30, (), (0, 1), ("folk 1\n",), [], ["folk 1\n"], {}, {"folk 1\n": 1}, ("0 1",), [0, 1],
    ((1, 1), ()), ((0, 1), (0, 1)),
]
# Signs that some ways to ask for figures, blanks and line ends take for such.
NO_FIGURES = ("\u00b2", "\u0661", "\uff11", "\u2460", "+1", "-1", "01", "1 ", " 1", "1_", "10", "1.", "", "x", "1\r", "\t1")
NO_BLANKS = ("  ", "\t", "\u00a0", "", "\r", "\x0b", "\x0c", "\u2003", "_", " \t")
NO_NEWLINES = ("\r", "\r\n", "\x0b", "\x0c", "\x1c", "\x85", "\u2028", " \n", "\n\n", "\n ", " ", "")


def bad(line):
    return BadLine, {"line": line}


def lines_by_word(text):
    """The lines of a text that is a string, not empty and ended by a newline; else the number of the wrong line."""
    if type(text) is not str or text == "":
        return 0
    lines = text.split("\n")
    return lines[:-1] if lines[-1] == "" else len(lines) - 1


def web_by_word(text):
    """The web that a text tells, BadLine if it tells none, line by line."""
    lines = lines_by_word(text)
    if type(lines) is int:
        return bad(lines)
    if not re.fullmatch("folk( [123]){1,6}", lines[0]):
        return bad(0)
    tops, looks = tuple(int(word) for word in lines[0].split()[1:]), []
    for number, line in enumerate(lines[1:], 1):
        found = re.fullmatch("look ([0-9]) at ([0-9]) (liking|spite)", line)
        if not found:
            return bad(number)
        other, one = int(found[1]), int(found[2])
        lookers = [look[1] for look in looks]
        if max(one, other) >= len(tops) or lookers.count(other) == 4 or len(looks) == 14:
            return bad(number)
        if looks and (one, other) <= looks[-1][:2]:
            return bad(number)
        looks.append((one, other, {"liking": 1, "spite": -1}[found[3]]))
    return tops, tuple(looks)


def rules_by_word(web, text):
    """The rules that a text tells, BadLine if it tells none, line by line."""
    lines = lines_by_word(text)
    if type(lines) is int:
        return bad(lines)
    tables = []
    for folk, line in enumerate(lines):
        if folk == len(web[0]) or not re.fullmatch(f"{folk} tells( [0-{web[0][folk]}])+", line):
            return bad(folk)
        table = tuple(int(word) for word in line.split()[2:])
        if len(table) != len(rows_by_word(web, folk)[1]) or not table_by_word(web, folk, table):
            return bad(folk)
        tables.append(table)
    return tuple(tables) if len(tables) == len(web[0]) else bad(len(lines))


def state_by_word(web, text):
    """The state that a text tells, found among the texts of all states."""
    texts = {" ".join(str(mood) for mood in state): state for state in states_by_word(web)}
    return texts.get(text, bad(0)) if type(text) is str else bad(0)


def damaged(random, text):
    """A text with something else in it, by chance."""
    lines = text.split("\n")
    at, other = random.randrange(len(lines)), random.randrange(len(lines))
    place = random.randrange(len(text) + 1)
    sign = random.choice(" \n\t\r0123456789-+lLoaAtsx") if random.random() < 0.9 else random.choice("\u00b2\u0661\x0b\u2028")
    words = lines[at].split(" ")
    word = random.randrange(len(words))
    kind = random.randrange(9)
    if kind == 0:
        return text[:place] + sign + text[place:]
    if kind == 1:
        return text[:place] + text[place + 1:]
    if kind == 2:
        return text[:place] + sign + text[place + 1:]
    if kind == 3:
        lines[at], lines[other] = lines[other], lines[at]
    elif kind == 4:
        lines.insert(at, lines[other])
    elif kind == 5:
        del lines[at]
    elif kind == 6:
        words[word] = random.choice(("0", "1", "2", "3", "5", "liking", "spite", "tells", "look", "at", "Look", "01", ""))
        lines[at] = " ".join(words)
    elif kind == 7:
        del words[word]
        lines[at] = " ".join(words)
    else:
        words.insert(word, random.choice(("0", "1", "3", "", "at")))
        lines[at] = " ".join(words)
    return "\n".join(lines)


class Examples(unittest.TestCase):
    def test_document(self):
        self.assertEqual(web_text(CHASE), "folk 1 1\nlook 1 at 0 liking\nlook 0 at 1 spite\n")
        self.assertEqual(read_web("folk 2\nlook 0 at 0 spite\n"), ((2,), ((0, 0, -1),)))
        self.assertEqual(rules_text(CHASE, ((1, 0), (0, 1))), "0 tells 1 0\n1 tells 0 1\n")
        self.assertEqual(read_rules(CHASE, "0 tells 1 0\n1 tells 0 1\n"), ((1, 0), (0, 1)))
        self.assertEqual(state_text(CHASE, (1, 0)), "1 0")
        self.assertEqual(read_state(CHASE, "1 0"), (1, 0))
        self.assertEqual(error_of(read_rules, CHASE, "0 tells 0 1\n"), bad(0))

    def test_by_name(self):
        self.assertEqual(web_text(web=((1,), ())), "folk 1\n")
        self.assertEqual(rules_text(rules=((1,),), web=((1,), ())), "0 tells 1\n")
        self.assertEqual(state_text(state=(1,), web=((1,), ())), "1")
        self.assertEqual(read_web(text="folk 1\n"), ((1,), ()))
        self.assertEqual(read_rules(text="0 tells 1\n", web=((1,), ())), ((1,),))
        self.assertEqual(read_state(text="1", web=((1,), ())), (1,))


class Written(unittest.TestCase):
    def test_one(self):
        for top in (1, 2, 3):
            self.assertEqual(web_text(((top,), ())), f"folk {top}\n")
            self.assertEqual(rules_text(((top,), ()), ((top,),)), f"0 tells {top}\n")
            self.assertEqual(state_text(((top,), ()), (top,)), f"{top}")

    def test_six_and_fourteen_looks(self):
        self.assertEqual(web_text(SIX), SIX_TEXT)
        self.assertEqual(read_web(SIX_TEXT), SIX)

    def test_tables(self):
        self.assertEqual(rules_text(MIXED, MIXED_RULES), (
            "0 tells 0 0 1 1\n1 tells 0 3\n2 tells 0 0 1 0 1 2 1 1 2 2 2 2 0 0 0 0 0 1 0 1 2 1 2 2\n"
        ))
        self.assertEqual(rules_text(SELF, SELF_RULES), "0 tells 1\n1 tells 1 1 0\n2 tells 0 0 1 0 0 0 1 1 2 0 1 1 2 2 2 0 1 2\n")

    def test_looker_first(self):
        self.assertEqual(web_text(((1, 1, 1), ((0, 2, 1), (2, 1, -1)))), "folk 1 1 1\nlook 2 at 0 liking\nlook 1 at 2 spite\n")

    def test_errors(self):
        for wrong in STRANGE:
            with self.subTest(wrong=wrong):
                self.assertIs(error_of(web_text, wrong)[0], BadWeb)
                self.assertIs(error_of(rules_text, wrong, None)[0], BadWeb)
                self.assertIs(error_of(state_text, wrong, None)[0], BadWeb)
                self.assertIs(error_of(rules_text, FRIENDS, wrong)[0], BadRules)
                self.assertEqual(error_of(state_text, FRIENDS, wrong), (BadState, {}))
        self.assertEqual(error_of(rules_text, FRIENDS, ((0, 1), (1, 0))), (BadRules, {"folk": 1}))
        self.assertEqual(error_of(state_text, FRIENDS, (0, 2)), (BadState, {}))
        self.assertEqual(error_of(state_text, FRIENDS, (0, True)), (BadState, {}))


class BothWays(unittest.TestCase):
    def assert_both_ways(self, web, rules, states):
        text = web_text(web)
        self.assertEqual(read_web(text), web)
        self.assertEqual(web_by_word(text), web)
        self.assertEqual(web_text(read_web(text)), text)
        text = rules_text(web, rules)
        self.assertEqual(read_rules(web, text), rules)
        self.assertEqual(rules_by_word(web, text), rules)
        self.assertEqual(rules_text(web, read_rules(web, text)), text)
        for state in states:
            text = state_text(web, state)
            self.assertEqual(text, " ".join(str(mood) for mood in state))
            self.assertEqual(read_state(web, text), state)

    def assert_tuples(self, value):
        """Tuples of tuples and of integers, all the way down."""
        if type(value) is not int:
            self.assertIs(type(value), tuple)
            for part in value:
                self.assert_tuples(part)

    def test_by_word(self):
        random = Random(71)
        for web in some_webs(72, 200) + [FRIENDS, CHASE, MIXED, SELF, SIX, LONG]:
            rules = some_rules(random, web)
            states = states_by_word(web)
            self.assert_both_ways(web, rules, random.sample(states, min(10, len(states))))
            self.assert_tuples(read_web(web_text(web)))
            self.assert_tuples(read_rules(web, rules_text(web, rules)))
            self.assert_tuples(read_state(web, state_text(web, states[-1])))
        self.assert_both_ways(MIXED, MIXED_RULES, states_by_word(MIXED))
        self.assert_both_ways(SELF, SELF_RULES, states_by_word(SELF))
        self.assert_both_ways(LONG, LONG_RULES, [LONG_STATE])

    def test_longest_table(self):
        web = ((3,) * 5, tuple((one, 4, 1) for one in range(4)))
        rules = ((0,),) * 4 + ((0,) * 100 + (1,) * 100 + (3,) * 56,)
        self.assertTrue(table_by_word(web, 4, rules[4]))
        self.assert_both_ways(web, rules, [(0, 1, 2, 3, 0)])
        self.assertEqual(error_of(read_rules, web, rules_text(web, rules)[:-3] + "\n"), bad(4))


class NoStrings(unittest.TestCase):
    def test_no_strings(self):
        for wrong in NO_STRINGS:
            with self.subTest(wrong=wrong):
                self.assertEqual(error_of(read_web, wrong), bad(0))
                self.assertEqual(error_of(read_rules, FRIENDS, wrong), bad(0))
                self.assertEqual(error_of(read_state, FRIENDS, wrong), bad(0))

    def test_strange(self):
        for wrong in STRANGE:
            self.assertEqual(error_of(read_web, wrong), bad(0))
            self.assertEqual(error_of(read_rules, FRIENDS, wrong), bad(0))
            self.assertEqual(error_of(read_state, FRIENDS, wrong), bad(0))

    def test_empty(self):
        self.assertEqual(error_of(read_web, ""), bad(0))
        self.assertEqual(error_of(read_rules, FRIENDS, ""), bad(0))
        self.assertEqual(error_of(read_state, FRIENDS, ""), bad(0))

    def test_web_ahead_of_text(self):
        for wrong in STRANGE + [FRIENDS[0], ((1, 1), ((1, 0, 1), (0, 1, 1)))]:
            for text in (None, "", "0 tells 1", "0 1", [], "0 tells 0 1\n1 tells 0 1\n"):
                self.assertIs(error_of(read_rules, wrong, text)[0], BadWeb)
                self.assertIs(error_of(read_state, wrong, text)[0], BadWeb)
        self.assertEqual(error_of(read_state, ((4,), ()), "9"), (BadWeb, {"part": "tops"}))
        self.assertEqual(error_of(read_rules, ((1,), ((0, 0, 0),)), 1), (BadWeb, {"part": "looks"}))


class ReadWeb(unittest.TestCase):
    def refused(self, text, line):
        with self.subTest(text=text):
            self.assertEqual(error_of(read_web, text), bad(line))
            self.assertEqual(web_by_word(text), bad(line))

    def test_no_newline_at_the_end(self):
        for text, line in (
            ("folk 1", 0), ("folk", 0), ("x", 0), (" ", 0), ("\nx", 1), ("folk 1\nlook 0 at 0 liking", 1), ("\n\n\n ", 3),
            (SIX_TEXT[:-1], 14), (SIX_TEXT + " ", 15), ("folk 1\n\r", 1),
        ):
            self.refused(text, line)

    def test_no_newline_ahead_of_all_else(self):
        self.refused("folk 9\nlook\nlook 0 at 0 liking", 2)
        self.refused("\n\n\n\nlook", 4)
        self.refused("folk 1\nlook 0 at 0 liking\nlook 0 at 0 liking\nx", 3)

    def test_first_line(self):
        for line in (
            "", " ", "folk", "folk ", "folk  1", " folk 1", "folk 1 ", "folk\t1", "folk 1  2", "Folk 1", "FOLK 1", "folks 1", "1",
            "folk 0", "folk 4", "folk 1 0", "folk 1 4", "folk 9", "folk 12", "folk 01", "folk +1", "folk -1", "folk 1,1",
            "folk 1 1 1 1 1 1 1", "folk 1 1 1 1 1 1 1 1", "folk x", "folk one", "look 0 at 0 liking", "folk 1 look 0 at 0 spite",
            "folk 1\r", "folk 1 1 x", "fol", "folk1", "folk 11",
        ):
            self.refused(line + "\n", 0)
            self.refused(line + "\nlook 0 at 0 liking\n", 0)
            self.refused("\n" + line + "\n", 0)

    def test_other_figures(self):
        for word in NO_FIGURES:
            self.refused(f"folk {word}\n", 0)
            self.refused(f"folk 1 {word}\n", 0)
            self.refused(f"folk 2 2\nlook {word} at 1 liking\n", 1)
            self.refused(f"folk 2 2\nlook 1 at {word} spite\n", 1)

    def test_other_blanks(self):
        for blank in NO_BLANKS:
            self.refused(f"folk{blank}1\n", 0)
            self.refused(f"folk 1{blank}1\n", 0)
            for line in ("look{} 1 at 0 spite", "look 1{}at 0 spite", "look 1 at{}0 spite", "look 1 at 0{}spite"):
                self.refused("folk 1 1\n" + line.replace("{} ", "{}").replace("{}", blank) + "\n", 1)

    def test_other_line_ends(self):
        self.assertEqual(read_web("folk 1 1\nlook 1 at 0 spite\nlook 0 at 1 liking\n"), ((1, 1), ((0, 1, -1), (1, 0, 1))))
        for end, line in (
            ("\r", 0), ("\r\n", 0), ("\x0b", 0), ("\x0c", 0), ("\x1c", 0), ("\x85", 0), ("\u2028", 0), (" \n", 0), ("\n\n", 1),
            ("\n ", 1), (" ", 0), ("", 0),
        ):
            self.refused(f"folk 1 1{end}look 1 at 0 spite\nlook 0 at 1 liking\n", line)
            self.refused(f"folk 1 1\nlook 1 at 0 spite{end}look 0 at 1 liking\n", line + 1)
        for end in ("\r", "\r\n", "\x0b\n", "\u2028\n", " \n", "\n\n", "\t\n"):
            self.refused(f"folk 1 1\nlook 1 at 0 spite{end}", 2 if end == "\n\n" else 1)

    def test_look_lines(self):
        for line in (
            "", " ", "look", "look 0 at 0", "look 0 at 0 ", "look 0 at 0 like", "look 0 at 0 Liking", "look 0 at 0 SPITE",
            "Look 0 at 0 liking", "look 0 At 0 liking", "look 0 0 liking", "look at 0 0 liking", "look 0 at 0 liking spite",
            "look 0 at 0 liking ", " look 0 at 0 liking", "look  0 at 0 liking", "look 0  at 0 liking", "look 0 at  0 liking",
            "look 0 at 0  liking", "look 0 at 0\tliking", "look 00 at 0 liking", "look 0 at 00 liking", "look +0 at 0 liking",
            "look -0 at 0 liking", "look 0 at 10 liking", "look 10 at 0 liking", "look x at 0 liking", "look 2 at 0 liking",
            "look 0 at 2 liking", "look 9 at 9 spite", "look 0 at 0 with liking", "0 looks at 0 with liking", "folk 1 1",
            "look 0 at 0 1", "look 0 at 0 -1", "looks 0 at 0 spite", "look 0 in 0 spite", "look 0 at 0 spites",
        ):
            self.refused(f"folk 1 1\n{line}\n", 1)
            self.refused(f"folk 1 1\n{line}\nlook 0 at 1 liking\n", 1)
            self.refused(f"folk 1 1\nlook 0 at 0 spite\n{line}\nlook 0 at 1 liking\n", 2)
            self.refused(f"folk 1 1\nlook 0 at 0 spite\nlook 0 at 1 liking\n{line}\n", 3)

    def test_out_of_sequence(self):
        for lines, wrong in (
            (("1 at 0 liking", "0 at 0 liking"), 2),
            (("0 at 1 liking", "0 at 0 liking"), 2),
            (("0 at 1 liking", "1 at 0 liking"), 2),
            (("0 at 0 liking", "1 at 1 liking", "0 at 1 spite"), 3),
            (("0 at 0 spite", "1 at 1 liking", "0 at 1 spite", "1 at 1 liking"), 3),
            (("0 at 0 liking", "0 at 0 liking"), 2),
            (("0 at 0 liking", "0 at 0 spite"), 2),
            (("0 at 0 spite", "0 at 0 liking"), 2),
            (("0 at 0 spite", "1 at 0 spite", "0 at 0 liking"), 3),
        ):
            self.refused("folk 1 1\n" + "".join(f"look {line}\n" for line in lines), wrong)

    def test_fifteenth_look(self):
        self.refused(SIX_TEXT + "look 3 at 5 liking\n", 15)
        self.refused(SIX_TEXT + "look 3 at 5 liking\nlook 4 at 5 liking\n", 15)
        # With one look less there is room for this one.
        self.assertEqual(len(read_web(SIX_TEXT.replace("look 1 at 5 spite\n", "") + "look 3 at 5 liking\n")[1]), 14)

    def test_fifth_look(self):
        four = "folk 1 1 1 1 1\n" + "".join(f"look 2 at {one} liking\n" for one in range(4))
        self.assertEqual(len(read_web(four)[1]), 4)
        self.refused(four + "look 2 at 4 liking\n", 5)
        self.refused(four + "look 0 at 4 spite\nlook 2 at 4 spite\nlook 3 at 4 spite\n", 6)
        # Anybody may be looked at by more than four.
        self.assertEqual(len(read_web("folk 1 1 1 1 1\n" + "".join(f"look {one} at 2 spite\n" for one in range(5)))[1]), 5)

    def test_folk_that_are_not_there(self):
        for many in range(1, 7):
            first = "folk" + " 2" * many + "\n"
            for other in (many, 9):
                self.refused(first + f"look {other} at 0 liking\n", 1)
                self.refused(first + f"look 0 at {other} liking\n", 1)
            self.assertEqual(read_web(first + f"look {many - 1} at 0 spite\n")[1], ((0, many - 1, -1),))

    def test_several_wrong_ones(self):
        self.refused("folk 4\nlook\n", 0)
        self.refused("folk 1\nlook\nlook\n", 1)
        self.refused("folk 1\nlook 0 at 0 spite\nlook 0 at 0 spite\n\n", 2)
        self.refused("folk 1\nlook 0 at 1 spite\nfolk 1\n", 1)
        self.refused("x\n\n\n", 0)

    def test_damaged(self):
        random = Random(73)
        read = 0
        for web in some_webs(74, 150) + [SIX] * 50 + [FRIENDS, CHASE, MIXED, SELF] * 10:
            for _ in range(20):
                text = damaged(random, web_text(web))
                found = outcome(read_web, text)
                with self.subTest(text=text):
                    self.assertEqual(found, web_by_word(text))
                read += found[0] is not BadLine
        self.assertGreater(read, 200)


class ReadRules(unittest.TestCase):
    def refused(self, web, text, line):
        with self.subTest(text=text):
            self.assertEqual(error_of(read_rules, web, text), bad(line))
            self.assertEqual(rules_by_word(web, text), bad(line))

    def test_no_newline_at_the_end(self):
        for text, line in (
            ("0 tells 0 1", 0), ("0 tells 0 1\n1 tells 0 1", 1), ("0 tells 0 1\n1 tells 0 1\n ", 2), ("x", 0), ("\n\n\nx", 3),
            ("0 tells 1 0\n1 tells 1 0\n2", 2), ("x\n1 tells 0 1", 1),
        ):
            self.refused(FRIENDS, text, line)

    def test_lines_that_are_lacking(self):
        web = ((1, 2, 3, 1, 2, 3), ())
        lines = [f"{folk} tells {folk % 2}\n" for folk in range(6)]
        for many in range(1, 6):
            self.refused(web, "".join(lines[:many]), many)
            # One that is wrong among those that are there comes first.
            self.refused(web, "".join(lines[:many - 1]) + "x\n", many - 1)
        self.assertEqual(read_rules(web, "".join(lines)), ((0,), (1,), (0,), (1,), (0,), (1,)))

    def test_lines_too_many(self):
        for line in ("", "2 tells 0", "2 tells", "1 tells 0 1", "2 tells 0 1", "x", " "):
            self.refused(FRIENDS, f"0 tells 0 1\n1 tells 0 1\n{line}\n", 2)
            self.refused(FRIENDS, f"0 tells 0 1\n1 tells 0 1\n{line}\n\n", 2)
        self.refused(((1,), ()), "0 tells 1\n" * 12, 1)
        self.refused(((1,), ()), "0 tells 1\n1 tells 1\n", 1)
        self.refused(FRIENDS, "0 tells 0 1\n1 tells 1 0\n2 tells 0\n", 1)

    def test_wrong_lines(self):
        for line in (
            "", " ", "{}", "{} tells", "{} tells ", "{} tells 0", "{} tells 0 ", "{} tells 0 1 ", " {} tells 0 1", "{}  tells 0 1",
            "{} tells  0 1", "{} tells 0  1", "{} tells 0 1 1", "{} tells 0 1 0 1", "{} tell 0 1", "{} Tells 0 1", "{} TELLS 0 1",
            "{}\ttells 0 1", "{} tells\t0 1", "{} tells 0\t1", "{} tells 0 2", "{} tells 1 0", "{} tells 0 9", "{} tells 0 10",
            "{} tells 0 01", "{} tells 00 1", "{} tells 0 +1", "{} tells -0 1", "{} tells 0,1", "{} tells x 1", "0{} tells 0 1",
            "+{} tells 0 1", "2 tells 0 1", "9 tells 0 1", "tells 0 1", "x tells 0 1", "{} tells 0 1\r", "{} tells tells 0 1",
            "{} {} tells 0 1", "{} 0 1", "look 0 at 0 liking",
        ):
            first, second = line.replace("{}", "0"), line.replace("{}", "1")
            self.refused(FRIENDS, f"{first}\n1 tells 0 1\n", 0)
            self.refused(FRIENDS, f"{first}\n", 0)
            self.refused(FRIENDS, f"0 tells 0 1\n{second}\n", 1)
            self.refused(FRIENDS, f"{first}\n{second}\n", 0)
            web = ((1, 1, 1), ((0, 1, 1), (1, 0, 1)))
            self.refused(web, f"0 tells 0 1\n{second}\n2 tells 1\n", 1)
            web = ((1, 1, 1), ((0, 2, 1),))
            if not line.startswith("2"):
                self.refused(web, f"0 tells 0\n1 tells 1\n{line.replace('{}', '2')}\n", 2)

    def test_a_line_of_another_one(self):
        self.refused(FRIENDS, "1 tells 0 1\n0 tells 0 1\n", 0)
        self.refused(FRIENDS, "0 tells 0 1\n0 tells 0 1\n", 1)
        self.refused(FRIENDS, "1 tells 0 1\n1 tells 0 1\n", 0)
        # The tables are of unlike lengths.
        self.refused(MIXED, "0 tells 0 3\n1 tells 0 0 1 1\n", 0)

    def test_other_figures_and_blanks(self):
        for word in NO_FIGURES:
            self.refused(FRIENDS, f"0 tells 0 {word}\n1 tells 0 1\n", 0)
            self.refused(FRIENDS, f"0 tells 0 1\n1 tells 0 {word}\n", 1)
            self.refused(FRIENDS, f"0 tells 0 1\n{word} tells 0 1\n", 1)
        for blank in NO_BLANKS:
            self.refused(FRIENDS, f"0{blank}tells 0 1\n1 tells 0 1\n", 0)
            self.refused(FRIENDS, f"0 tells{blank}0 1\n1 tells 0 1\n", 0)
            self.refused(FRIENDS, f"0 tells 0 1\n1 tells 0{blank}1\n", 1)

    def test_other_line_ends(self):
        for end in NO_NEWLINES:
            line = 1 if end.startswith("\n") else 0
            self.refused(FRIENDS, f"0 tells 0 1{end}1 tells 0 1\n", line)

    def test_no_tables(self):
        self.refused(CHASE, "0 tells 0 1\n1 tells 0 1\n", 0)
        self.refused(CHASE, "0 tells 1 0\n1 tells 1 0\n", 1)
        self.refused(CHASE, "0 tells 0 1\n1 tells 1 0\n", 0)
        web = ((1, 1, 1), ((0, 2, 1), (1, 2, -1)))
        self.assertEqual(read_rules(web, "0 tells 1\n1 tells 0\n2 tells 0 0 1 0\n"), digits("1 0 0010"))
        self.refused(web, "0 tells 1\n1 tells 0\n2 tells 0 1 1 0\n", 2)
        self.refused(web, "0 tells 1 1\n1 tells 0\n2 tells 0 0 1 0\n", 0)

    def test_damaged(self):
        random = Random(75)
        read = 0
        for web in some_webs(76, 150, most_folk=4, most_top=2, most_of_one=2) + [FRIENDS, CHASE, MIXED, SELF] * 20:
            for _ in range(12):
                text = damaged(random, rules_text(web, some_rules(random, web)))
                found = outcome(read_rules, web, text)
                with self.subTest(text=text):
                    self.assertEqual(found, rules_by_word(web, text))
                read += found[0] is not BadLine
        self.assertGreater(read, 100)


class ReadState(unittest.TestCase):
    def test_wrong(self):
        for text in (
            "", " ", "0", "0 ", " 0 1", "0 1 ", "0  1", "0 1\n", "\n", "0\n1", "0\t1", "01", "0 2", "0 1 0", "2 0", "0 01", "0 +1",
            "-0 1", "0,1", "a b", "0 x", "0 1\r", "0 \u0661", "\u00b2 0", "0\u00a01", "0 1 1", "(0, 1)", "0 10", "1", "9 9",
        ):
            with self.subTest(text=text):
                self.assertEqual(error_of(read_state, FRIENDS, text), bad(0))

    def test_of_this_web(self):
        web = ((1, 2, 3), ())
        for folk, top in enumerate((1, 2, 3)):
            words = ["0", "0", "0"]
            words[folk] = str(top)
            self.assertEqual(read_state(web, " ".join(words))[folk], top)
            words[folk] = str(top + 1)
            self.assertEqual(error_of(read_state, web, " ".join(words)), bad(0))
        self.assertEqual(error_of(read_state, ((1,), ()), "0 0"), bad(0))
        self.assertEqual(read_state(((1,), ()), "0"), (0,))

    def test_damaged(self):
        random = Random(77)
        read = 0
        for web in some_webs(78, 100, most_folk=4):
            for state in random.sample(states_by_word(web), 2):
                for _ in range(4):
                    text = damaged(random, state_text(web, state))
                    found = outcome(read_state, web, text)
                    with self.subTest(text=text):
                        self.assertEqual(found, state_by_word(web, text))
                    read += found[0] is not BadLine
        self.assertGreater(read, 20)


if __name__ == "__main__":
    unittest.main()
