"""Rules that spoil what rings forbid: with two settled states by an even ring, with none by an odd one."""

from likespite.errors import NoEven, NoOdd
from likespite.rings import even_rings, odd_rings
from likespite.rules import many_rows, rows_of
from likespite.webs import check_web, looks_of


def table_by_look(web, number):
    """The table by which the looker of a look goes by that look alone.

    They stand at their top if it is, by liking, at somebody above 0, or, by spite, at somebody at 0; otherwise at 0.
    """
    tops, looks = web
    one, other, sign = looks[number]
    seen = [folk for folk, _ in looks_of(web, other)]
    place = seen.index(one)
    rows = rows_of([tops[folk] for folk in seen])
    return tuple([tops[other] if (row[place] > 0) == (sign == 1) else 0 for row in rows])


def rules_of_ring(web, ring):
    """The rules by which the lookers of a ring go by its looks alone, and all others stand at 0."""
    tops, looks = web
    found = [(0,) * many_rows(web, folk) for folk in range(len(tops))]
    for number in ring:
        found[looks[number][1]] = table_by_look(web, number)
    return tuple(found)


def twofold(web):
    """Rules with at least two settled states, for a web with an even ring."""
    check_web(web)
    found = even_rings(web)
    if not found:
        raise NoEven()
    return rules_of_ring(web, found[0])


def mute(web):
    """Rules without a settled state, for a web with an odd ring."""
    check_web(web)
    found = odd_rings(web)
    if not found:
        raise NoOdd()
    return rules_of_ring(web, found[0])
