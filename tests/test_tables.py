"""Which values are rules: BadRules and the tables."""

import unittest
from itertools import product

from helper import (
    CHASE, FRIENDS, LONG, LONG_RULES, MIXED, MIXED_RULES, SELF, SELF_RULES, STRANGE, digits, error_of, table_by_word,
)
from likespite.errors import BadRules
from likespite.rules import settled, told

NO_MOODS = (True, False, None, -1, 10**30, -(10**30), "0", "", (0,), (), [0], [], {}, {0: 0})
NO_TABLES = (None, True, 0, 1, "01", "", [0, 1], [], {0: 0, 1: 1}, {}, (0,), (0, 1, 1), (), ((0, 1),), (0, 1, 0, 1))


def folk_refused(web, rules):
    """The folk that BadRules names, "taken" if the rules are."""
    found = error_of(told, web, rules, (0,) * len(web[0]), 0)
    if found is None:
        return "taken"
    assert found[0] is BadRules
    return found[1]["folk"]


def one_looker(tops, signs):
    """A web in which the last one looks at as many first ones as there are signs."""
    last = len(tops) - 1
    return tops, tuple((one, last, sign) for one, sign in enumerate(signs))


def with_last(web, table):
    """Rules in which the last one has a table and all others see nobody."""
    return ((0,),) * (len(web[0]) - 1) + (table,)


def taken_tables(web):
    """How many tables the last one may have, each compared with the document's words."""
    tops, looks = web
    last = len(tops) - 1
    rows = 1
    for one, other, _ in looks:
        if other == last:
            rows *= tops[one] + 1
    many = 0
    for table in product(range(tops[last] + 1), repeat=rows):
        found = folk_refused(web, with_last(web, table))
        right = table_by_word(web, last, table)
        assert found == ("taken" if right else last), (web, table, found)
        many += right
    return many


class Tables(unittest.TestCase):
    def test_example(self):
        with self.assertRaises(BadRules) as kept:
            settled(FRIENDS, ((0, 1), (1, 0)))
        self.assertEqual(kept.exception.folk, 1)

    def test_taken(self):
        for web, rules in (
            (FRIENDS, digits("01 01")), (FRIENDS, digits("00 11")), (CHASE, digits("10 01")), (MIXED, MIXED_RULES),
            (SELF, SELF_RULES), (LONG, LONG_RULES), (((1,), ()), ((1,),)), (((3,), ()), ((3,),)),
        ):
            self.assertEqual(folk_refused(web, rules), "taken")

    def test_row_of_nobody(self):
        web = ((2, 1), ())
        for moods in product(range(3), range(2)):
            self.assertEqual(folk_refused(web, ((moods[0],), (moods[1],))), "taken")
        for wrong in ((), (0, 0), 0, None, [0], (3,), (-1,), (None,), (True,)):
            self.assertEqual(folk_refused(web, (wrong, (0,))), 0)
        for wrong in ((), (0, 0), 0, None, [0], (2,), (-1,), (None,), (False,)):
            self.assertEqual(folk_refused(web, ((0,), wrong)), 1)

    def test_one_look_liking(self):
        web = one_looker((3, 2), (1,))
        self.assertEqual(folk_refused(web, digits("0 0122")), "taken")
        for word in ("1000", "2122", "0010", "0021", "0120", "2221"):
            self.assertEqual(folk_refused(web, digits("0 " + word)), 1)

    def test_one_look_spite(self):
        web = one_looker((3, 2), (-1,))
        self.assertEqual(folk_refused(web, digits("0 2210")), "taken")
        for word in ("0001", "2022", "1211", "0111", "2212", "1122"):
            self.assertEqual(folk_refused(web, digits("0 " + word)), 1)

    def test_several_looks(self):
        likes = one_looker((1, 1, 1), (1, 1))
        spites = one_looker((1, 1, 1), (-1, -1))
        first = one_looker((1, 1, 1), (1, -1))
        last = one_looker((1, 1, 1), (-1, 1))
        # The rows are 00, 01, 10, 11, the last one's mood changing from each to the next.
        for web, word in ((likes, "0001"), (spites, "1000"), (first, "0010"), (last, "0100")):
            for other in (likes, spites, first, last):
                expected = "taken" if other == web else 2
                self.assertEqual(folk_refused(other, digits("0 0 " + word)), expected)
        for web in (likes, spites, first, last):
            for word in ("0110", "1001"):
                self.assertEqual(folk_refused(web, digits("0 0 " + word)), 2)
        # These tables see the one or the other alone.
        for web, other, word in ((likes, first, "0011"), (likes, last, "0101"), (spites, last, "1100")):
            self.assertEqual(folk_refused(web, digits("0 0 " + word)), "taken")
            self.assertEqual(folk_refused(other, digits("0 0 " + word)), "taken")
        self.assertEqual(folk_refused(spites, digits("0 0 0011")), 2)
        self.assertEqual(folk_refused(likes, digits("0 0 1010")), 2)

    def test_counts_with_one_look(self):
        for top, other in product((1, 2, 3), (1, 2, 3)):
            counts = {taken_tables(one_looker((top, other), (sign,))) for sign in (1, -1)}
            with self.subTest(top=top, other=other):
                self.assertEqual(len(counts), 1)
        self.assertEqual(taken_tables(one_looker((1, 1), (1,))), 3)
        self.assertEqual(taken_tables(one_looker((3, 3), (-1,))), 35)

    def test_counts_with_several_looks(self):
        for signs in product((1, -1), repeat=2):
            self.assertEqual(taken_tables(one_looker((1, 1, 1), signs)), 6)
            self.assertEqual(taken_tables(one_looker((2, 1, 1), signs)), 10)
            self.assertEqual(taken_tables(one_looker((1, 2, 2), signs)), 50)
        for signs in product((1, -1), repeat=3):
            self.assertEqual(taken_tables(one_looker((1, 1, 1, 1), signs)), 20)

    def test_counts_with_looks_at_oneself(self):
        for sign, other_sign in product((1, -1), repeat=2):
            self.assertEqual(taken_tables(((1,), ((0, 0, sign),))), 3)
            self.assertEqual(taken_tables(((3,), ((0, 0, sign),))), 35)
            self.assertEqual(taken_tables(((2, 1), ((0, 1, sign), (1, 1, other_sign)))), 10)

    def test_four_looks(self):
        web = one_looker((1, 1, 1, 1, 1), (1, -1, 1, -1))
        rows = list(product((0, 1), repeat=4))
        most = tuple(int(row[0] - row[1] + row[2] - row[3] > 0) for row in rows)
        self.assertEqual(folk_refused(web, with_last(web, most)), "taken")
        for place in range(16):
            table = most[:place] + (1 - most[place],) + most[place + 1:]
            expected = "taken" if table_by_word(web, 4, table) else 4
            self.assertEqual(folk_refused(web, with_last(web, table)), expected)

    def test_each_look_by_itself(self):
        tops = (1, 3, 2, 1, 3)
        for place, sign in product(range(4), (1, -1)):
            for falls in (False, True):
                web = one_looker(tops, [sign if k == place else 1 for k in range(4)])
                rows = list(product(*[range(top + 1) for top in tops[:4]]))
                up = [row[place] for row in rows]
                table = tuple(tops[place] - mood for mood in up) if falls else tuple(up)
                expected = "taken" if falls == (sign == -1) else 4
                self.assertEqual(folk_refused(web, with_last(web, table)), expected)


class TableValues(unittest.TestCase):
    def test_moods(self):
        web = one_looker((1, 2), (1,))
        self.assertEqual(folk_refused(web, digits("1 22")), "taken")
        self.assertEqual(folk_refused(web, digits("1 23")), 1)
        self.assertEqual(folk_refused(web, digits("1 33")), 1)
        self.assertEqual(folk_refused(web, digits("2 22")), 0)
        for wrong in NO_MOODS:
            for table in ((wrong, 1), (1, wrong), (0, wrong), (wrong, wrong)):
                with self.subTest(table=table):
                    self.assertEqual(folk_refused(web, ((0,), table)), 1)
            self.assertEqual(folk_refused(web, ((wrong,), (0, 0))), 0)

    def test_moods_are_ones_own(self):
        web = ((1, 3), ((0, 1, 1), (1, 0, 1)))
        self.assertEqual(folk_refused(web, digits("0001 03")), "taken")
        self.assertEqual(folk_refused(web, digits("0002 03")), 0)
        self.assertEqual(folk_refused(web, digits("0003 03")), 0)
        self.assertEqual(folk_refused(web, digits("0001 04")), 1)

    def test_lengths(self):
        web = ((1, 3), ((0, 1, 1), (1, 0, 1)))
        for table in ("0", "00", "000", "00000", "00000000"):
            self.assertEqual(folk_refused(web, digits(table + " 03")), 0)
        for table in ("0", "000", "0000"):
            self.assertEqual(folk_refused(web, digits("0001 " + table)), 1)
        self.assertEqual(folk_refused(web, ((), (0, 3))), 0)
        self.assertEqual(folk_refused(web, ((0, 0, 0, 1), ())), 1)
        for place in range(3):
            for table in (MIXED_RULES[place][:-1], MIXED_RULES[place] + MIXED_RULES[place][-1:]):
                rules = MIXED_RULES[:place] + (table,) + MIXED_RULES[place + 1:]
                self.assertEqual(folk_refused(MIXED, rules), place)

    def test_no_table(self):
        for wrong in NO_TABLES:
            with self.subTest(wrong=wrong):
                self.assertEqual(folk_refused(FRIENDS, (wrong, (0, 1))), 0)
                self.assertEqual(folk_refused(FRIENDS, ((0, 1), wrong)), 1)

    def test_first_of_the_folk(self):
        for wrong, other in product(NO_TABLES[:6], NO_TABLES[5:]):
            self.assertEqual(folk_refused(FRIENDS, (wrong, other)), 0)
        six = ((1,) * 6, ())
        for first in range(6):
            rules = ((1,),) * first + (None,) + ((2,),) * (5 - first)
            self.assertEqual(folk_refused(six, rules), first)


class RulesValues(unittest.TestCase):
    def test_no_tuple_of_so_many(self):
        good = (0, 1)
        for rules in (
            None, True, False, 0, 2, "", "01", "ab", [], [good, good], {}, {0: good, 1: good}, {good: good},
            (), (good,), (good, good, good), (None,), (None, None, None), ((1, 0), (0, 1), (0, 1)),
        ):
            with self.subTest(rules=rules):
                self.assertEqual(folk_refused(FRIENDS, rules), None)

    def test_strange_values(self):
        for web in (FRIENDS, MIXED):
            for value in STRANGE:
                fits = isinstance(value, tuple) and len(value) == len(web[0])
                with self.subTest(value=value):
                    self.assertEqual(folk_refused(web, value), 0 if fits else None)

    def test_rules_of_another_web(self):
        self.assertEqual(folk_refused(CHASE, digits("01 01")), 0)
        self.assertEqual(folk_refused(CHASE, digits("10 10")), 1)
        self.assertEqual(folk_refused(((1, 1), ()), digits("01 01")), 0)
        self.assertEqual(folk_refused(FRIENDS, MIXED_RULES), None)


if __name__ == "__main__":
    unittest.main()
