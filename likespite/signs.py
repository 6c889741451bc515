"""Liking exchanged for spite, by which rings get odd or even, and how many rings go through each look."""

from likespite.errors import BadWord
from likespite.pins import least_lots
from likespite.rings import even_rings, odd_rings
from likespite.webs import check_lot, check_web


def has_odd_part(lot, group):
    """Whether an odd number of a lot is in a group."""
    return len([number for number in lot if number in group]) % 2 == 1


def exchanges_all(lot, changing, staying):
    """Whether the exchange of a lot of looks changes the kind of all rings that should, and of none that shouldn't."""
    if not all(has_odd_part(lot, ring) for ring in changing):
        return False
    return not any(has_odd_part(lot, ring) for ring in staying)


def many_through(number, found):
    """How many of the rings found go through a look."""
    return len([ring for ring in found if number in ring])


def exchanged(web, lot):
    """The web in which a lot of looks has the other sign."""
    check_web(web)
    tops, looks = web
    check_lot(len(looks), lot)
    found = [(one, other, -sign if number in lot else sign) for number, (one, other, sign) in enumerate(looks)]
    return tops, tuple(found)


def exchanges(web, word):
    """The ascending tuple of the lots of looks, as few as can be, by whose exchange all rings get odd, or even."""
    check_web(web)
    if word not in ("odd", "even"):
        raise BadWord()
    _, looks = web
    odd, even = odd_rings(web), even_rings(web)
    changing, staying = (even, odd) if word == "odd" else (odd, even)
    return least_lots(len(looks), lambda lot: exchanges_all(lot, changing, staying))


def rings_through(web):
    """The tuple, for each look, of the pair of how many even and how many odd rings go through it."""
    check_web(web)
    _, looks = web
    even, odd = even_rings(web), odd_rings(web)
    return tuple([(many_through(number, even), many_through(number, odd)) for number in range(len(looks))])
