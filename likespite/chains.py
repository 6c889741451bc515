"""How soon folk are settled where there are no rings."""

from likespite.errors import HasRing
from likespite.rings import all_rings
from likespite.webs import check_web


def check_no_ring(web):
    """Refuse a web with a ring."""
    if all_rings(web):
        raise HasRing()


def all_depths(web):
    """The tuple of the greatest number of folk in a chain that ends with each of the folk."""
    tops, looks = web
    found = [1] * len(tops)
    # Without rings no chain has more looks than there are folk.
    for _ in tops:
        for one, other, _ in looks:
            found[other] = max(found[other], found[one] + 1)
    return tuple(found)


def depths(web):
    """The tuple of the greatest number of folk in a chain of looks that ends with each of the folk."""
    check_web(web)
    check_no_ring(web)
    return all_depths(web)


def depth(web):
    """The greatest number of folk in a chain of looks."""
    check_web(web)
    check_no_ring(web)
    return max(all_depths(web))
