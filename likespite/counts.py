"""All tables that folk may have, how many rules there are, and how many states they let settle."""

from likespite.errors import TooMany
from likespite.rules import many_rows, place_seen, rows_of, ways_of
from likespite.webs import check_folk, check_web

MOST_TABLES = 3000
MOST_RULES = 20000


def next_moods(top, ways, table):
    """The moods that can come next in a table of which there are the first ones, as the ways of the rows let them."""
    place = len(table)
    below = [(table[place - step], sign) for step, size, sign in ways if (place // step) % size > 0]
    least = max([mood for mood, sign in below if sign == 1], default=0)
    greatest = min([mood for mood, sign in below if sign == -1], default=top)
    return list(range(least, greatest + 1))


def all_tables(web, folk):
    """The ascending tuple of all tables that one of the folk may have."""
    tops, _ = web
    ways = ways_of(web, folk)
    found = [()]
    for _ in range(many_rows(web, folk)):
        found = [table + (mood,) for table in found for mood in next_moods(tops[folk], ways, table)]
        # The first moods of a table can always be gone on with: so there are as many tables as beginnings, or more.
        if len(found) > MOST_TABLES:
            raise TooMany(MOST_TABLES)
    return tuple(found)


def tables_of_all(web):
    """For each of the folk all tables that they may have."""
    tops, _ = web
    return [all_tables(web, folk) for folk in range(len(tops))]


def many_choices(choices):
    """In how many ways one can be taken of each."""
    many = 1
    for choice in choices:
        many = many * len(choice)
    return many


def settled_by_choices(web, choices):
    """For each way to take one table of each the list of the settled states."""
    tops, _ = web
    states = rows_of(tops)
    found = [states]
    # Table by table, those states are left in which it tells the mood: soon these are few.
    for folk, choice in enumerate(choices):
        places = {state: place_seen(web, state, folk) for state in states}
        found = [
            [state for state in left if table[places[state]] == state[folk]]
            for left in found
            for table in choice
        ]
    return found


def tables(web, folk):
    """The ascending tuple of all tables that one of the folk may have."""
    check_web(web)
    check_folk(web, folk)
    return all_tables(web, folk)


def count_rules(web):
    """How many rules a web has."""
    check_web(web)
    return many_choices(tables_of_all(web))


def settled_counts(web):
    """The tuple of how many rules have no settled state, one, two, and so on."""
    check_web(web)
    choices = tables_of_all(web)
    if many_choices(choices) > MOST_RULES:
        raise TooMany(MOST_RULES)
    numbers = [len(states) for states in settled_by_choices(web, choices)]
    found = [0] * (max(numbers) + 1)
    for number in numbers:
        found[number] += 1
    return tuple(found)
