"""A ring, told: the rules by which it goes, their two settled states, and its looks as a text."""

from likespite.errors import NoEven
from likespite.rings import check_ring, has_even_spites
from likespite.rules import settled_states
from likespite.spoils import rules_of_ring
from likespite.texts import sign_word
from likespite.webs import check_web


def rules_by(web, ring):
    """The rules by which the lookers of a ring go by its looks alone, and all others stand at 0."""
    check_web(web)
    check_ring(web, ring)
    return rules_of_ring(web, ring)


def pair_by(web, ring):
    """The two states that are settled by the rules of an even ring.

    That in which the one at whom the ring's first look is stands at 0 is the first one.
    """
    check_web(web)
    check_ring(web, ring)
    if not has_even_spites(web, ring):
        raise NoEven()
    _, looks = web
    one, _, _ = looks[ring[0]]
    least, greatest = settled_states(web, rules_of_ring(web, ring))
    return (least, greatest) if least[one] == 0 else (greatest, least)


def ring_tale(web, ring):
    """The looks of a ring as a text, and how many spites it has."""
    check_web(web)
    check_ring(web, ring)
    _, looks = web
    told = [looks[number] for number in ring]
    lines = [f"{other} looks at {one} with {sign_word(sign)}\n" for one, other, sign in told]
    spites = len([sign for _, _, sign in told if sign == -1])
    kind = "even" if has_even_spites(web, ring) else "odd"
    return "".join(lines) + f"spites {spites}: {kind}\n"
