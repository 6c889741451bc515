"""Webs: folk with the tops of their moods, and the looks of folk at folk."""

from likespite.errors import BadFolk, BadLot, BadWeb

MOST_FOLK = 6
MOST_TOP = 3
MOST_LOOKS = 14
MOST_LOOKS_OF_ONE = 4


def is_whole(value, least, most):
    """Whether a value is an integer within these bounds."""
    # Python takes True and False for integers, the document doesn't.
    return isinstance(value, int) and not isinstance(value, bool) and least <= value <= most


def are_tops(value):
    """Whether a value can be the tops of a web."""
    if not isinstance(value, tuple) or not 1 <= len(value) <= MOST_FOLK:
        return False
    return all(is_whole(top, 1, MOST_TOP) for top in value)


def is_look(value, many):
    """Whether a value is a look among so many folk."""
    if not isinstance(value, tuple) or len(value) != 3:
        return False
    one, other, sign = value
    if not is_whole(one, 0, many - 1) or not is_whole(other, 0, many - 1):
        return False
    return is_whole(sign, -1, 1) and sign != 0


def are_looks(value, many):
    """Whether a value can be the looks of a web of so many folk."""
    if not isinstance(value, tuple) or len(value) > MOST_LOOKS:
        return False
    if not all(is_look(look, many) for look in value):
        return False
    # No two looks have alike one and other, so the signs don't tell which look is ahead.
    pairs = [(one, other) for one, other, _ in value]
    if pairs != sorted(set(pairs)):
        return False
    lookers = [other for _, other in pairs]
    return all(lookers.count(folk) <= MOST_LOOKS_OF_ONE for folk in range(many))


def wrong_part(web):
    """The first of the words "web", "tops", "looks" that names what is wrong, None for a web."""
    if not isinstance(web, tuple) or len(web) != 2:
        return "web"
    tops, looks = web
    if not are_tops(tops):
        return "tops"
    if not are_looks(looks, len(tops)):
        return "looks"
    return None


def check_web(web):
    """Refuse what is no web."""
    part = wrong_part(web)
    if part is not None:
        raise BadWeb(part)


def check_folk(web, folk):
    """Refuse what is no number of one of the folk of a web."""
    tops, _ = web
    if not is_whole(folk, 0, len(tops) - 1):
        raise BadFolk()


def check_lot(many, lot):
    """Refuse what is no ascending tuple of numbers below many."""
    if not isinstance(lot, tuple) or not all(is_whole(number, 0, many - 1) for number in lot):
        raise BadLot()
    if list(lot) != sorted(set(lot)):
        raise BadLot()


def looks_of(web, folk):
    """The looks of one of the folk, pairs (one, sign), ascending as the looks of the web are."""
    _, looks = web
    return [(one, sign) for one, other, sign in looks if other == folk]


def looked_at(web, folk):
    """The ascending tuple of those at whom one of the folk looks."""
    check_web(web)
    check_folk(web, folk)
    return tuple([one for one, _ in looks_of(web, folk)])
