import copy
import unittest
from itertools import product

from helper import CHASE, FRIENDS, LONG, MIXED, SELF, STRANGE, error_of
from likespite.errors import BadFolk, BadWeb
from likespite.webs import looked_at

NOT_INTEGERS = (True, False, None, "1", "", (1,), (), [1], {}, {1: 1})
NO_FOLK = (True, False, None, "0", "", (0,), (), [0], [], {}, {0: 0}, 10**30, -(10**30))
FOURTEEN = tuple(sorted(
    [(one, other, (-1) ** one) for one in range(4) for other in range(3)] + [(4, 3, 1), (5, 3, -1)]
))


def part_of(value):
    """The part that BadWeb names, None if the value is taken for a web."""
    found = error_of(looked_at, value, 0)
    if found is None:
        return None
    assert found[0] is BadWeb
    return found[1]["part"]


class GoodWebs(unittest.TestCase):
    def test_example(self):
        web = ((1, 3, 1), ((0, 1, 1), (0, 2, -1), (1, 2, 1)))
        self.assertEqual([looked_at(web, folk) for folk in range(3)], [(), (0,), (0, 1)])

    def test_tops_and_numbers_of_folk(self):
        for many in range(1, 7):
            for top in (1, 2, 3):
                with self.subTest(many=many, top=top):
                    self.assertEqual(looked_at(((top,) * many, ()), many - 1), ())
        self.assertEqual(looked_at(((1, 3, 2, 1, 3, 2), ()), 5), ())

    def test_looks_of_each_sign_at_oneself(self):
        for sign in (1, -1):
            self.assertEqual(looked_at(((2,), ((0, 0, sign),)), 0), (0,))

    def test_fourteen_looks(self):
        self.assertEqual(len(FOURTEEN), 14)
        web = ((1, 2, 3, 1, 2, 3), FOURTEEN)
        seen = [looked_at(web, folk) for folk in range(6)]
        self.assertEqual(seen, [(0, 1, 2, 3), (0, 1, 2, 3), (0, 1, 2, 3), (4, 5), (), ()])

    def test_four_looks_of_one(self):
        looks = ((0, 1, 1), (1, 1, -1), (2, 1, -1), (4, 1, 1))
        web = ((1, 1, 1, 1, 1), looks)
        self.assertEqual([looked_at(web, folk) for folk in range(5)], [(), (0, 1, 2, 4), (), (), ()])

    def test_many_looks_at_one(self):
        web = ((1,) * 6, tuple((3, other, 1) for other in range(6)))
        self.assertEqual([looked_at(web, folk) for folk in range(6)], [(3,)] * 6)

    def test_looks_both_ways(self):
        self.assertEqual([looked_at(CHASE, 0), looked_at(CHASE, 1)], [(1,), (0,)])

    def test_ascending_by_one_whatever_the_sign(self):
        self.assertEqual(looked_at(((1, 1, 1), ((0, 2, 1), (1, 2, -1), (2, 2, 1))), 2), (0, 1, 2))

    def test_by_word(self):
        for web in (FRIENDS, CHASE, MIXED, SELF, LONG):
            for folk in range(len(web[0])):
                seen = looked_at(web, folk)
                self.assertEqual(seen, tuple(sorted(one for one, other, _ in web[1] if other == folk)))
                self.assertIsInstance(seen, tuple)

    def test_arguments_by_name(self):
        self.assertEqual(looked_at(folk=0, web=CHASE), (1,))


class BadPairs(unittest.TestCase):
    def test_no_pair(self):
        tops, looks = FRIENDS
        values = [
            None, True, False, 0, 2, -1, "", "ab", [], [tops, looks], {}, {0: tops, 1: looks}, {tops: 1, looks: 2},
            (), (tops,), (tops, looks, ()), (tops, looks, looks), (tops, looks, None, None),
        ]
        for value in values:
            with self.subTest(value=value):
                self.assertEqual(part_of(value), "web")

    def test_strange_values(self):
        for value in STRANGE:
            with self.subTest(value=value):
                pair = isinstance(value, tuple) and len(value) == 2
                self.assertEqual(part_of(value), "tops" if pair else "web")


class BadTops(unittest.TestCase):
    def test_no_tuple(self):
        for tops in (None, True, 1, 0, "", "1", "11", [], [1], [1, 1], {}, {1: 1}, {0: 1, 1: 1}):
            with self.subTest(tops=tops):
                self.assertEqual(part_of((tops, ())), "tops")

    def test_too_few_and_too_many(self):
        self.assertEqual(part_of(((), ())), "tops")
        for many in (7, 8, 20):
            self.assertEqual(part_of(((1,) * many, ())), "tops")

    def test_things_in_them(self):
        for wrong in (0, 4, -1, 10**30, -(10**30), *NOT_INTEGERS):
            for tops in ((wrong,), (wrong, 1), (1, wrong), (1, 1, 3, wrong, 2, 1), (1, 1, 1, 1, 1, wrong)):
                with self.subTest(tops=tops):
                    self.assertEqual(part_of((tops, ())), "tops")

    def test_ahead_of_looks(self):
        for tops in (None, (), (4,), (True,), [1]):
            for looks in (None, [], ((0, 0, 2),), ((5, 5, 1),), (None,)):
                with self.subTest(tops=tops, looks=looks):
                    self.assertEqual(part_of((tops, looks)), "tops")


class BadLooks(unittest.TestCase):
    def refused(self, looks, tops=(1, 1)):
        with self.subTest(looks=looks, tops=tops):
            self.assertEqual(part_of((tops, looks)), "looks")

    def test_example(self):
        with self.assertRaises(BadWeb) as kept:
            looked_at(((1,), ((0, 0, 2),)), 0)
        self.assertEqual(kept.exception.part, "looks")

    def test_no_tuple(self):
        for looks in (None, True, 0, 1, "", "look", [], [(0, 1, 1)], {}, {(0, 1, 1): 1}):
            self.refused(looks)

    def test_fifteenth_look(self):
        six = (1,) * 6
        fifteen = tuple(sorted([*FOURTEEN, (0, 3, 1)]))
        self.assertEqual(len(fifteen), 15)
        self.assertIsNone(part_of((six, FOURTEEN)))
        self.refused(fifteen, six)
        self.refused(tuple((one, other, 1) for one in range(4) for other in range(6)), six)

    def test_fifth_look(self):
        for other in range(6):
            looks = tuple((one, other, 1) for one in range(5))
            self.refused(looks, (1,) * 6)
            for out in range(5):
                self.assertIsNone(part_of(((1,) * 6, looks[:out] + looks[out + 1:])))

    def test_not_ascending(self):
        self.refused(((1, 0, 1), (0, 1, 1)))
        self.refused(((0, 1, 1), (0, 0, 1)))
        self.refused(((0, 1, -1), (0, 0, 1)))
        self.refused(((0, 0, 1), (1, 1, 1), (1, 0, 1)))
        self.refused(((0, 0, 1), (1, 0, 1), (0, 1, 1)))
        self.refused(((0, 1, 1), (1, 0, 1), (0, 0, 1)))

    def test_alike_one_and_other(self):
        self.refused(((0, 1, 1), (0, 1, 1)))
        self.refused(((0, 1, -1), (0, 1, -1)))
        self.refused(((0, 1, -1), (0, 1, 1)))
        self.refused(((0, 1, 1), (0, 1, -1)))
        self.refused(((0, 0, -1), (0, 0, 1)))
        self.refused(((0, 0, 1), (0, 1, -1), (0, 1, 1), (1, 0, 1)))

    def test_numbers_of_folk(self):
        for wrong in (-1, 2, 3, 10**30, *NOT_INTEGERS):
            self.refused(((wrong, 1, 1),))
            self.refused(((1, wrong, 1),))
            self.refused(((0, 0, 1), (0, wrong, 1)))
            self.refused(((wrong, wrong, 1),))
        for many in range(1, 6):
            self.refused(((many, 0, 1),), (3,) * many)
            self.refused(((0, many, 1),), (3,) * many)
            self.refused(((-1, 0, 1),), (3,) * many)
            self.refused(((0, -1, 1),), (3,) * many)

    def test_signs(self):
        for wrong in (0, 2, -2, 3, 10**30, *NOT_INTEGERS):
            self.refused(((0, 1, wrong),))
            self.refused(((0, 1, 1), (1, 0, wrong)))

    def test_no_triples(self):
        for wrong in (None, True, 1, "", "look", (), (0,), (0, 1), (0, 1, 1, 1), [0, 1, 1], {0: 0}, ((0, 1, 1),)):
            self.refused((wrong,))
            self.refused(((0, 1, 1), wrong))
            self.refused((wrong, (0, 1, 1)))
        self.refused((0, 1, 1))

    def test_by_word(self):
        triples = list(product((-1, 0, 1, 2), (-1, 0, 1, 2), (-1, 0, 1, 2)))
        good = [look for look in triples if {*look[:2]} <= {0, 1} and look[2] in (-1, 1)]
        for first, second in product(triples, triples):
            right = first in good and second in good and first < second and first[:2] != second[:2]
            self.assertEqual(part_of(((1, 1), (first, second))), None if right else "looks")


class LookedAtErrors(unittest.TestCase):
    def test_bad_folk(self):
        for web in (((1,), ()), CHASE, MIXED, LONG):
            for wrong in (-1, len(web[0]), len(web[0]) + 1, *NO_FOLK):
                with self.subTest(web=web, wrong=wrong):
                    self.assertEqual(error_of(looked_at, web, wrong), (BadFolk, {}))

    def test_bad_web_first(self):
        for web, part in ((None, "web"), (((), ()), "tops"), (((1,), ((0, 0, 0),)), "looks")):
            for folk in (0, -1, None, True, "0", 9):
                with self.subTest(web=web, folk=folk):
                    self.assertEqual(error_of(looked_at, web, folk), (BadWeb, {"part": part}))

    def test_arguments_stay(self):
        values = [[1], [[1, 1], [[0, 1, 1]]], {"tops": [1]}, ([1], [[0, 0, 1]]), ((1,), [[0, 0, 1]])]
        for value in values:
            kept = copy.deepcopy(value)
            error_of(looked_at, value, value)
            error_of(looked_at, CHASE, value)
            self.assertEqual(value, kept)


if __name__ == "__main__":
    unittest.main()
