"""What the tests share: some webs with rules, strange values, and the document's words said once more."""

from itertools import permutations, product
from random import Random

from likespite.errors import FolkError


def digits(words):
    """Tables written as a word of digits each."""
    return tuple(tuple(int(sign) for sign in word) for word in words.split())


FRIENDS = ((1, 1), ((0, 1, 1), (1, 0, 1)))
CHASE = ((1, 1), ((0, 1, 1), (1, 0, -1)))
# The tops are unlike, so that a table's length and its moods come from unlike folk.
MIXED = ((1, 3, 2), ((0, 1, 1), (0, 2, -1), (1, 0, 1), (1, 2, 1), (2, 2, 1)))
MIXED_RULES = digits("0011 03 001012112222000001012122")
# 2 looks at 0 (liking), 1 (spite) and themselves (liking).
SELF = ((2, 1, 2), ((0, 2, 1), (1, 2, -1), (2, 1, -1), (2, 2, 1)))
SELF_RULES = digits("1 110 001000112011222012")
# Found by search: from LONG_STATE it takes 227 ticks until the one settled state is reached.
LONG = (
    (3, 3, 3, 3, 3, 3),
    (
        (0, 5, -1), (1, 4, -1), (2, 0, -1), (2, 2, -1), (2, 5, 1),
        (3, 2, 1), (3, 5, -1), (4, 3, 1), (5, 1, 1),
    ),
)
LONG_RULES = digits(
    "2210 0123 2333112301230002 0123 3210"
    " 3321332133313333221032103211322200000000111032100000000010001100"
)
LONG_STATE = (3, 1, 3, 2, 3, 3)

# Webs with rules.
VILLAGES = [
    (FRIENDS, digits("01 01")), (FRIENDS, digits("00 11")), (CHASE, digits("10 01")), (CHASE, digits("11 01")),
    (MIXED, MIXED_RULES), (SELF, SELF_RULES), (((1,), ()), ((1,),)), (((3, 2), ()), ((2,), (0,))),
    (((3,), ((0, 0, 1),)), ((0, 1, 2, 3),)), (((3,), ((0, 0, 1),)), ((1, 1, 3, 3),)),
    (((2,), ((0, 0, -1),)), ((2, 1, 0),)), (((1,), ((0, 0, -1),)), ((1, 0),)),
]
# Six folk and fourteen looks, liking and spite in turn.
CROWD_PAIRS = (
    (0, 1), (0, 2), (1, 0), (1, 2), (2, 3), (2, 4), (3, 4), (3, 5), (4, 0), (4, 3), (5, 0), (5, 1), (5, 4), (5, 5),
)
CROWD = ((1,) * 6, tuple((one, other, (-1) ** place) for place, (one, other) in enumerate(CROWD_PAIRS)))

# No web, no rules, no state, and no number of folk or ticks, whatever web it is.
STRANGE = [
    None, True, False, -1, 10**30, -(10**30), "", "web", "0", (), [], {}, [1], (None,), (True,), ((),), ("0",),
    {"web": ((1,), ())}, {0: 0, (1, 2): [3]}, [((1,), ())], [[0, 1], [0, 1]], ((), ()), (None, None),
    ("folk", "look"), ([1], []), ({}, {}), (-1, -1), (10**30,), ((((1,),),), (((),),)),
]


def rows_by_word(web, folk):
    """Those at whom one looks, with the signs, and the rows of their moods, ascending."""
    tops, looks = web
    seen = sorted((one, sign) for one, other, sign in looks if other == folk)
    rows = sorted(product(*[range(tops[one] + 1) for one, _ in seen]))
    return seen, rows


def table_by_word(web, folk, table):
    """Whether moods, one for each row, never go against a look, every two rows compared."""
    seen, rows = rows_by_word(web, folk)
    for row, mood in zip(rows, table):
        for later, other_mood in zip(rows, table):
            unlike = [k for k in range(len(row)) if row[k] != later[k]]
            if len(unlike) == 1 and row < later:
                sign = seen[unlike[0]][1]
                if (sign == 1 and other_mood < mood) or (sign == -1 and other_mood > mood):
                    return False
    return True


def told_by_word(web, rules, state, folk):
    """What one's table tells, by looking the row up."""
    seen, rows = rows_by_word(web, folk)
    return rules[folk][rows.index(tuple(state[one] for one, _ in seen))]


def states_by_word(web):
    """All states, ascending."""
    return sorted(product(*[range(top + 1) for top in web[0]]))


def are_rules_by_word(web, rules):
    """Whether a value is rules of a web."""
    if type(rules) is not tuple or len(rules) != len(web[0]):
        return False
    for folk, (top, table) in enumerate(zip(web[0], rules)):
        if type(table) is not tuple or len(table) != len(rows_by_word(web, folk)[1]):
            return False
        if not all(type(mood) is int and 0 <= mood <= top for mood in table) or not table_by_word(web, folk, table):
            return False
    return True


def all_tables_by_word(web, folk):
    """All tables that one may have, ascending, found among all tuples of moods."""
    _, rows = rows_by_word(web, folk)
    moods = range(web[0][folk] + 1)
    return [table for table in product(moods, repeat=len(rows)) if table_by_word(web, folk, table)]


def all_rules_by_word(web):
    """All rules of a web, ascending."""
    return list(product(*[all_tables_by_word(web, folk) for folk in range(len(web[0]))]))


def settled_by_word(web, rules):
    """All settled states, ascending."""
    return tuple(
        state for state in states_by_word(web)
        if all(told_by_word(web, rules, state, folk) == mood for folk, mood in enumerate(state))
    )


def rings_by_word(web):
    """All rings, ascending, found among all rows of unlike folk."""
    tops, looks = web
    numbers = {(one, other): number for number, (one, other, _) in enumerate(looks)}
    found = set()
    for many in range(1, len(tops) + 1):
        for row in permutations(range(len(tops)), many):
            pairs = [(row[k], row[(k + 1) % many]) for k in range(many)]
            if row[0] == min(row) and all(pair in numbers for pair in pairs):
                ring = [numbers[pair] for pair in pairs]
                least = ring.index(min(ring))
                found.add(tuple(ring[least:] + ring[:least]))
    return tuple(sorted(found))


def is_even_by_word(web, ring):
    """Whether the signs of a ring have the product 1."""
    product_of_signs = 1
    for number in ring:
        product_of_signs *= web[1][number][2]
    return product_of_signs == 1


def around(signs, tops):
    """A web of one ring with these signs."""
    many = len(signs)
    return tops, tuple(sorted((one, (one + 1) % many, sign) for one, sign in enumerate(signs)))


ROUNDS = [
    around(signs, tops)
    for many in range(1, 7)
    for signs in ((1,) * many, (-1,) + (1,) * (many - 1), (-1,) * many, (1,) * (many - 1) + (-1,))
    for tops in ((1,) * many, (2,) * many, (3,) * many, (3, 1, 2, 1, 3, 2)[:many])
]


def some_web(random, most_folk=6, most_top=3, most_looks=14, most_of_one=4):
    """A web by a source of random numbers, with looks up to a number that is itself by chance."""
    many = random.randint(1, most_folk)
    pairs = [(one, other) for one in range(many) for other in range(many)]
    random.shuffle(pairs)
    looks = []
    for one, other in pairs[:random.randint(0, most_looks)]:
        if len([look for look in looks if look[1] == other]) < most_of_one:
            looks.append((one, other, random.choice((1, -1))))
    return tuple(random.randint(1, most_top) for _ in range(many)), tuple(sorted(looks))


def some_webs(seed, many, **limits):
    """So many webs, the same ones for the same seed."""
    random = Random(seed)
    return [some_web(random, **limits) for _ in range(many)]


def some_rules(random, web):
    """Rules of a web by a source of random numbers: each row has the greatest of the moods drawn below it."""
    tables = []
    for folk, top in enumerate(web[0]):
        seen, rows = rows_by_word(web, folk)
        drawn = {row: random.randint(0, top) for row in rows}
        signs = [sign for _, sign in seen]
        tables.append(tuple(
            max(drawn[below] for below in rows if all((a - b) * sign >= 0 for a, b, sign in zip(row, below, signs)))
            for row in rows
        ))
    return tuple(tables)


def outcome(call, *values):
    """What a call returns, or the class and the fields of the error that it raises, one of the package's."""
    try:
        return call(*values)
    except FolkError as error:
        return error.__class__, vars(error)


def error_of(call, *values):
    """The class and the fields of the error that a call raises, None if it raises none of the package's."""
    try:
        call(*values)
    except FolkError as error:
        return error.__class__, vars(error)
    return None
