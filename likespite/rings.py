"""Rings of looks, even and odd ones, and the parts of a web."""

from likespite.errors import BadRing
from likespite.webs import check_web, is_whole


def closes(looks, path):
    """Whether the last looker of a path of looks is the one at whom its first look is."""
    return looks[path[-1]][1] == looks[path[0]][0]


def goes_on(looks, path, number):
    """Whether a look is at the last looker of a path, by one who is no looker of it yet."""
    one, other, _ = looks[number]
    return one == looks[path[-1]][1] and other not in [looks[place][1] for place in path]


def all_rings(web):
    """The ascending tuple of all rings."""
    _, looks = web
    found = []
    paths = [(number,) for number in range(len(looks))]
    while paths:
        found = found + [path for path in paths if closes(looks, path)]
        # A ring begins with its least number, so only greater ones go on.
        paths = [
            path + (number,)
            for path in paths
            for number in range(path[0] + 1, len(looks))
            if not closes(looks, path) and goes_on(looks, path, number)
        ]
    return tuple(sorted(found))


def has_even_spites(web, ring):
    """Whether the number of the spites of a ring is even."""
    _, looks = web
    spites = [number for number in ring if looks[number][2] == -1]
    return len(spites) % 2 == 0


def even_rings(web):
    """The ascending list of the even rings."""
    return [ring for ring in all_rings(web) if has_even_spites(web, ring)]


def odd_rings(web):
    """The ascending list of the odd rings."""
    return [ring for ring in all_rings(web) if not has_even_spites(web, ring)]


def is_ring(web, value):
    """Whether a value is a ring of a web."""
    _, looks = web
    # Python takes True for 1, so that a tuple with True in it would be found among the rings.
    if not isinstance(value, tuple) or not all(is_whole(number, 0, len(looks) - 1) for number in value):
        return False
    return value in all_rings(web)


def check_ring(web, ring):
    """Refuse what is no ring of a web."""
    if not is_ring(web, ring):
        raise BadRing()


def shows_shortest(web, found, value):
    """Whether a value is one of the rings found with as few looks as can be, or None where there are none."""
    if not found:
        return value is None
    return is_ring(web, value) and value in found and len(value) == min([len(ring) for ring in found])


def led_from(web, folk):
    """Those to whom one of the folk leads by looks, and this one ahead of them."""
    _, looks = web
    found = [folk]
    place = 0
    while place < len(found):
        found = found + [other for one, other, _ in looks if one == found[place] and other not in found]
        place += 1
    return found


def all_parts(web):
    """The ascending tuple of the parts."""
    tops, _ = web
    led = [led_from(web, folk) for folk in range(len(tops))]
    both_ways = [[other for other in sorted(row) if folk in led[other]] for folk, row in enumerate(led)]
    return tuple(sorted({tuple(part) for part in both_ways}))


def rings(web):
    """The ascending tuple of all rings."""
    check_web(web)
    return all_rings(web)


def is_even(web, ring):
    """Whether the number of the spites of a ring is even."""
    check_web(web)
    check_ring(web, ring)
    return has_even_spites(web, ring)


def even_ring(web):
    """An even ring of as few looks as can be, None without any."""
    check_web(web)
    return min(even_rings(web), key=len, default=None)


def odd_ring(web):
    """An odd ring of as few looks as can be, None without any."""
    check_web(web)
    return min(odd_rings(web), key=len, default=None)


def shows_even_ring(web, value):
    """Whether a value is what even_ring may return."""
    check_web(web)
    return shows_shortest(web, even_rings(web), value)


def shows_odd_ring(web, value):
    """Whether a value is what odd_ring may return."""
    check_web(web)
    return shows_shortest(web, odd_rings(web), value)


def at_most_one(web):
    """Whether at most one state is settled, whatever the rules are."""
    check_web(web)
    return not even_rings(web)


def at_least_one(web):
    """Whether at least one state is settled, whatever the rules are."""
    check_web(web)
    return not odd_rings(web)


def just_one(web):
    """Whether just one state is settled, whatever the rules are."""
    check_web(web)
    return not all_rings(web)


def parts(web):
    """The ascending tuple of the parts, the largest lots of folk that lead to one another by looks."""
    check_web(web)
    return all_parts(web)
