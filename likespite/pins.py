"""Folk, and looks, that have some of each ring, and how many states can be settled."""

from itertools import combinations

from likespite.errors import BadWord
from likespite.rings import all_rings, even_rings, odd_rings
from likespite.webs import check_web


def lots_of(many, size):
    """The ascending list of the lots of so many (size) of the numbers below many."""
    return list(combinations(range(many), size))


def meets(lot, group):
    """Whether a lot has some of a group."""
    return any(number in group for number in lot)


def meets_all(lot, groups):
    """Whether a lot has some of each group."""
    return all(meets(lot, group) for group in groups)


def least_lots(many, fits):
    """The ascending tuple of the lots of numbers below many that fit, as few as can be, () if none fits."""
    for size in range(many + 1):
        found = [lot for lot in lots_of(many, size) if fits(lot)]
        if found:
            return tuple(found)
    return ()


def least_meeting(many, groups):
    """The ascending tuple of the lots of numbers below many, as few as can be, that have some of each group."""
    return least_lots(many, lambda lot: meets_all(lot, groups))


def folk_of(web, ring):
    """The folk through whom a ring goes."""
    _, looks = web
    return [looks[number][1] for number in ring]


def folk_of_even_rings(web):
    """For each even ring the folk through whom it goes."""
    return [folk_of(web, ring) for ring in even_rings(web)]


def folk_of_rings(web):
    """For each ring the folk through whom it goes."""
    return [folk_of(web, ring) for ring in all_rings(web)]


def many_moods(web, lot):
    """How many rows of moods a lot of folk can have."""
    tops, _ = web
    many = 1
    for folk in lot:
        many = many * (tops[folk] + 1)
    return many


def best_bound(web):
    """The least number of rows of moods of a lot that has somebody of each even ring, and the lot."""
    tops, _ = web
    groups = folk_of_even_rings(web)
    lots = [lot for size in range(len(tops) + 1) for lot in lots_of(len(tops), size) if meets_all(lot, groups)]
    many, _, lot = min([(many_moods(web, lot), len(lot), lot) for lot in lots])
    return many, lot


def rings_of_kind(web, word):
    """The rings that a word names."""
    if word == "odd":
        return odd_rings(web)
    if word == "even":
        return even_rings(web)
    return list(all_rings(web))


def pins(web):
    """The ascending tuple of the lots of folk, as few as can be, that have somebody of each even ring."""
    check_web(web)
    tops, _ = web
    return least_meeting(len(tops), folk_of_even_rings(web))


def bound(web):
    """How many states can be settled at most, as a lot that has somebody of each even ring tells."""
    check_web(web)
    many, _ = best_bound(web)
    return many


def bound_lot(web):
    """The lot that tells the bound, of as few folk as can be, of these the least."""
    check_web(web)
    _, lot = best_bound(web)
    return lot


def cuts(web, word):
    """The ascending tuple of the lots of looks, as few as can be, that have some look of each ring of a kind."""
    check_web(web)
    if word not in ("odd", "even", "any"):
        raise BadWord()
    _, looks = web
    return least_meeting(len(looks), rings_of_kind(web, word))
