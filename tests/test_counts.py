"""All tables, the number of rules, and how many settled states they have."""

import unittest
from collections import Counter
from itertools import product
from math import comb

from helper import (
    CHASE, FRIENDS, MIXED, SELF, STRANGE, all_rules_by_word, all_tables_by_word, error_of, rows_by_word, settled_by_word,
    some_webs, table_by_word,
)
from likespite.counts import count_rules, settled_counts, tables
from likespite.errors import BadFolk, BadWeb, TooMany

# Four folk with ten tables each (top 3) look at 0 with two of them: just 20000 rules.
JUST = ((1, 3, 3, 3, 3), tuple((0, other, (-1) ** other) for other in range(1, 5)))
MANY_TABLES = (TooMany, {"most": 3000})
MANY_RULES = (TooMany, {"most": 20000})


def seeing(top, others, signs):
    """A web in which 0 looks at folk with these tops."""
    return (top,) + others, tuple((one + 1, 0, sign) for one, sign in enumerate(signs))


class Tables(unittest.TestCase):
    def test_document(self):
        self.assertEqual(tables(FRIENDS, 0), ((0, 0), (0, 1), (1, 1)))

    def test_nobody(self):
        for top in (1, 2, 3):
            self.assertEqual(tables(((top,), ()), 0), tuple((mood,) for mood in range(top + 1)))

    def test_one_look(self):
        self.assertEqual(tables(((1, 1), ((0, 1, -1),)), 1), ((0, 0), (1, 0), (1, 1)))
        self.assertEqual(tables(((2,), ((0, 0, -1),)), 0), (
            (0, 0, 0), (1, 0, 0), (1, 1, 0), (1, 1, 1), (2, 0, 0), (2, 1, 0), (2, 1, 1), (2, 2, 0), (2, 2, 1), (2, 2, 2),
        ))
        for top, other, sign in product((1, 2, 3), (1, 2, 3), (1, -1)):
            self.assertEqual(len(tables(seeing(top, (other,), (sign,)), 0)), comb(top + other + 1, top))

    def test_two_looks(self):
        self.assertEqual(tables(seeing(1, (1, 1), (1, -1)), 0), (
            (0, 0, 0, 0), (0, 0, 1, 0), (0, 0, 1, 1), (1, 0, 1, 0), (1, 0, 1, 1), (1, 1, 1, 1),
        ))

    def test_numbers(self):
        # The numbers of monotone functions of two, three and four arguments.
        for signs, many in (((1, -1), 6), ((-1, 1, -1), 20), ((1, 1, -1, -1), 168)):
            self.assertEqual(len(tables(seeing(1, (1,) * len(signs), signs), 0)), many)
        self.assertEqual(len(tables(seeing(1, (3, 3), (1, -1)), 0)), 70)
        self.assertEqual(len(tables(seeing(2, (3, 3), (1, 1)), 0)), 1764)
        self.assertEqual(len(tables(seeing(1, (1, 3, 3), (-1, 1, 1)), 0)), 1764)

    def test_by_word(self):
        for top, others in (
            (1, (1, 1)), (1, (1, 2)), (2, (1, 1)), (3, (1, 1)), (2, (2,)), (2, (1, 2)), (1, (2, 2)), (1, (1, 1, 1)), (3, (3,)),
            (1, (1, 1, 2)), (1, (3, 2)), (3, (2,)), (2, (3,)),
        ):
            for signs in product((1, -1), repeat=len(others)):
                web = seeing(top, others, signs)
                found = tables(web, 0)
                with self.subTest(web=web):
                    self.assertEqual(found, tuple(all_tables_by_word(web, 0)))
                    self.assertIs(type(found), tuple)
                    self.assertTrue(all(type(table) is tuple for table in found))

    def test_with_oneself(self):
        for web in (MIXED, SELF):
            for folk in range(len(web[0])):
                if len(rows_by_word(web, folk)[1]) < 10:
                    self.assertEqual(list(tables(web, folk)), all_tables_by_word(web, folk))

    def test_great_ones(self):
        for web in (seeing(3, (2, 2), (1, -1)), seeing(1, (2, 2, 2), (-1, 1, -1)), seeing(2, (1, 1, 2), (1, 1, -1))):
            found = tables(web, 0)
            self.assertEqual(list(found), sorted(set(found)))
            self.assertTrue(all(table_by_word(web, 0, table) for table in found))
            self.assertIn(len(found), (980, 887))

    def test_too_many(self):
        # Nobody can have just 3000 tables: 1764 is the next number below (in test_numbers), 3490 the next one above.
        for web in (
            seeing(2, (1, 1, 3), (1, -1, -1)),
            seeing(3, (2, 3), (1, 1)), seeing(1, (2, 2, 3), (1, -1, 1)), seeing(1, (1, 1, 1, 3), (1, -1, 1, 1)),
            seeing(3, (3, 3, 3, 3), (1, -1, 1, -1)), seeing(2, (1, 1, 1, 1), (1,) * 4),
        ):
            self.assertEqual(error_of(tables, web, 0), MANY_TABLES)
            # The others have few, and no such error.
            self.assertEqual(len(tables(web, 1)), web[0][1] + 1)

    def test_bad_folk(self):
        crowd = seeing(3, (3, 3, 3, 3), (1,) * 4)
        for wrong in (True, False, None, -1, 5, 10**30, "0", "", (0,), [], [0], {}, ()):
            self.assertEqual(error_of(tables, crowd, wrong), (BadFolk, {}))

    def test_bad_web(self):
        for wrong in STRANGE:
            self.assertIs(error_of(tables, wrong, None)[0], BadWeb)
            self.assertIs(error_of(count_rules, wrong)[0], BadWeb)
            self.assertIs(error_of(settled_counts, wrong)[0], BadWeb)


class Rules(unittest.TestCase):
    def test_document(self):
        self.assertEqual(count_rules(FRIENDS), 9)

    def test_product(self):
        self.assertEqual(count_rules(((3,), ())), 4)
        self.assertEqual(count_rules(((1, 2, 3), ())), 24)
        self.assertEqual(count_rules(JUST), 20000)
        self.assertEqual(count_rules(seeing(2, (3, 3), (1, 1))), 1764 * 16)
        # Everybody looks at four: 168 tables each.
        looks = tuple(sorted((one, other, 1) for one in range(4) for other in range(3)))
        self.assertEqual(count_rules(((1,) * 4, looks)), 168 ** 3 * 2)

    def test_by_word(self):
        for web in some_webs(51, 60, most_folk=3, most_top=2, most_of_one=2):
            many = 1
            for folk in range(len(web[0])):
                if len(rows_by_word(web, folk)[1]) > 6:
                    break
                many *= len(all_tables_by_word(web, folk))
            else:
                self.assertEqual(count_rules(web), many)

    def test_too_many_tables(self):
        for web in (seeing(3, (2, 3), (1, 1)), ((3,) * 6, tuple((one, 5, 1) for one in range(4)))):
            self.assertEqual(error_of(count_rules, web), MANY_TABLES)

    def test_six_folk_with_all_looks(self):
        looks = [(one, other, (-1) ** one) for one in range(4) for other in range(3)] + [(4, 3, 1), (5, 3, -1)]
        web = ((3,) * 6, tuple(sorted(looks)))
        self.assertEqual(error_of(tables, web, 0), MANY_TABLES)
        self.assertEqual(error_of(tables, web, 3), (TooMany, {"most": 3000}))
        self.assertEqual(len(tables(web, 4)), 4)
        self.assertEqual(error_of(count_rules, web), MANY_TABLES)
        self.assertEqual(error_of(settled_counts, web), MANY_TABLES)


class SettledCounts(unittest.TestCase):
    def test_document(self):
        self.assertEqual(settled_counts(FRIENDS), (0, 8, 1))
        self.assertEqual(settled_counts(CHASE), (1, 8))

    def test_nobody_looks(self):
        self.assertEqual(settled_counts(((3,), ())), (0, 4))
        self.assertEqual(settled_counts(((3,) * 6, ())), (0, 4096))

    def test_oneself(self):
        self.assertEqual(settled_counts(((1,), ((0, 0, 1),))), (0, 2, 1))
        self.assertEqual(settled_counts(((1,), ((0, 0, -1),))), (1, 2))
        # Thirty-five tables, one of which leaves all four moods as they are.
        found = settled_counts(((3,), ((0, 0, 1),)))
        self.assertEqual([len(found), sum(found), found[0], found[4]], [5, 35, 0, 1])

    def test_by_word(self):
        lengths = set()
        webs = some_webs(52, 50, most_folk=2, most_top=2, most_of_one=1)
        webs += some_webs(53, 50, most_folk=3, most_top=1, most_looks=5, most_of_one=2)
        webs += some_webs(54, 15, most_folk=2, most_top=3, most_looks=2, most_of_one=1)
        for web in webs:
            many = Counter(len(settled_by_word(web, rules)) for rules in all_rules_by_word(web))
            found = settled_counts(web)
            with self.subTest(web=web):
                self.assertEqual(found, tuple(many[number] for number in range(max(many) + 1)))
                self.assertIs(type(found), tuple)
                self.assertTrue(all(type(number) is int for number in found))
            lengths.add(len(found))
        self.assertTrue({2, 3, 4} <= lengths, lengths)

    def test_sum(self):
        for web in some_webs(55, 200):
            if error_of(settled_counts, web) is None:
                found = settled_counts(web)
                self.assertEqual(sum(found), count_rules(web))
                self.assertGreater(found[-1], 0)

    def test_just_so_many(self):
        self.assertEqual(settled_counts(JUST), (0, 20000))

    def test_too_many_rules(self):
        more = (JUST[0], ((0, 0, 1),) + JUST[1])
        self.assertEqual(count_rules(more), 30000)
        self.assertEqual(error_of(settled_counts, more), MANY_RULES)
        self.assertEqual(error_of(settled_counts, seeing(2, (3, 3), (1, 1))), MANY_RULES)

    def test_too_many_tables_first(self):
        # Four folk who look at nobody would be too many rules already, 0 alone has too many tables.
        web = seeing(3, (3, 3, 3, 3), (1,) * 4)
        self.assertEqual(error_of(settled_counts, web), MANY_TABLES)
        # Too many rules of those ahead of the one with too many tables.
        web = ((1, 1, 1, 1, 1, 3), tuple(sorted(
            [(one, other, 1) for one in range(3) for other in range(3)] + [(one, 5, 1) for one in range(4)]
        )))
        self.assertEqual(error_of(count_rules, web), MANY_TABLES)
        self.assertEqual(error_of(settled_counts, web), MANY_TABLES)
        self.assertEqual(len(tables(web, 0)), 20)


if __name__ == "__main__":
    unittest.main()
