"""The sides of folk where no ring is odd, and the settled states that are come to from both ends."""

from likespite.errors import HasOdd
from likespite.rings import all_parts, led_from, odd_rings
from likespite.rules import check_rules, lot_told
from likespite.webs import check_web


def all_sides(web):
    """The tuple of everybody's side, for a web without odd rings."""
    tops, looks = web
    found = {}
    for part in all_parts(web):
        found[part[0]] = 1
        # In each round one more of the looks on a way from the first of the part is gone along. Without odd rings
        # all ways between two of a part lead to the same side.
        for _ in part:
            for one, other, sign in looks:
                if one in found and one in part and other in part:
                    found[other] = found[one] * sign
    return tuple([found[folk] for folk in range(len(tops))])


def parts_in_turn(web):
    """The parts, each behind those from which looks lead to it."""
    tops, _ = web
    led = [led_from(web, folk) for folk in range(len(tops))]
    # All who lead to a part ahead lead to the part behind it too, and its own folk besides.
    counted = [(len([row for row in led if part[0] in row]), part) for part in all_parts(web)]
    return [part for _, part in sorted(counted)]


def come_from(web, rules, side):
    """The settled state that part by part is come to from the low ends for the side 1, the high ends for -1."""
    tops, _ = web
    state = tuple([0 if own == side else top for own, top in zip(all_sides(web), tops)])
    for part in parts_in_turn(web):
        later = lot_told(web, rules, state, part)
        while later != state:
            state = later
            later = lot_told(web, rules, state, part)
    return state


def check_no_odd(web):
    """Refuse a web with an odd ring."""
    if odd_rings(web):
        raise HasOdd()


def sides(web):
    """The tuple of everybody's side, None if some ring is odd."""
    check_web(web)
    if odd_rings(web):
        return None
    return all_sides(web)


def low(web, rules):
    """The settled state that part by part is come to from the low ends."""
    check_web(web)
    check_rules(web, rules)
    check_no_odd(web)
    return come_from(web, rules, 1)


def high(web, rules):
    """The settled state that part by part is come to from the high ends."""
    check_web(web)
    check_rules(web, rules)
    check_no_odd(web)
    return come_from(web, rules, -1)
