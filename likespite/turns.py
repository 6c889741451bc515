"""The moods of some folk turned over, the least being the greatest."""

from likespite.rules import check_rules, check_state, rows_of
from likespite.webs import check_lot, check_web, looks_of


def mood_turned(web, folk, mood, lot):
    """A mood of one of the folk, turned over if they are of the lot."""
    tops, _ = web
    return tops[folk] - mood if folk in lot else mood


def table_turned(web, folk, table, lot):
    """The table that tells in turned rows what a table told, turned."""
    tops, _ = web
    seen = [one for one, _ in looks_of(web, folk)]
    rows = rows_of([tops[one] for one in seen])
    moods = {row: mood for row, mood in zip(rows, table)}
    found = []
    for row in rows:
        row_before = tuple([mood_turned(web, one, mood, lot) for one, mood in zip(seen, row)])
        found.append(mood_turned(web, folk, moods[row_before], lot))
    return tuple(found)


def turned(web, lot):
    """The web in which the moods of a lot of folk are turned over."""
    check_web(web)
    tops, looks = web
    check_lot(len(tops), lot)
    found = [(one, other, sign if (one in lot) == (other in lot) else -sign) for one, other, sign in looks]
    return tops, tuple(found)


def turned_state(web, state, lot):
    """The state in which each one of the lot has their top less their mood."""
    check_web(web)
    check_state(web, state)
    check_lot(len(state), lot)
    return tuple([mood_turned(web, folk, mood, lot) for folk, mood in enumerate(state)])


def turned_rules(web, rules, lot):
    """The rules of the turned web that tell in turned states what the rules told, turned."""
    check_web(web)
    check_rules(web, rules)
    check_lot(len(rules), lot)
    return tuple([table_turned(web, folk, table, lot) for folk, table in enumerate(rules)])
