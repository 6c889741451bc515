"""Folk who are held at their moods, and the states that are left then."""

from likespite.errors import BadHeld
from likespite.pins import folk_of_rings, least_lots, least_meeting, meets_all
from likespite.rules import check_rules, check_standing, rows_of, uneasy_folk
from likespite.webs import check_lot, check_web, is_whole


def is_held(tops, value):
    """Whether a value is a pair of one of the folk and a mood of theirs."""
    if not isinstance(value, tuple) or len(value) != 2:
        return False
    folk, mood = value
    return is_whole(folk, 0, len(tops) - 1) and is_whole(mood, 0, tops[folk])


def check_held(web, held):
    """Refuse what does not tell who is held at which mood."""
    tops, _ = web
    if not isinstance(held, tuple) or not all(is_held(tops, pair) for pair in held):
        raise BadHeld()
    lot = [folk for folk, _ in held]
    if lot != sorted(set(lot)):
        raise BadHeld()


def is_left(web, rules, held, state):
    """Whether those held have their moods in a state and each of the others has the mood that theirs tells."""
    if not all(state[folk] == mood for folk, mood in held):
        return False
    lot = [folk for folk, _ in held]
    return all(folk in lot for folk in uneasy_folk(web, rules, state))


def states_left(web, rules, held):
    """The ascending tuple of the states that are left."""
    tops, _ = web
    return tuple([state for state in rows_of(tops) if is_left(web, rules, held, state)])


def leaves_alone(web, rules, state, lot):
    """Whether a state is the only one left if a lot is held at its moods in it."""
    held = [(folk, state[folk]) for folk in lot]
    return states_left(web, rules, held) == (state,)


def held_states(web, rules, held):
    """The ascending tuple of the states that are left if some folk are held."""
    check_web(web)
    check_rules(web, rules)
    check_held(web, held)
    return states_left(web, rules, held)


def holders(web, rules, state):
    """The ascending tuple of the lots of folk, as few as can be, who, held at their moods, leave this state alone."""
    check_standing(web, rules, state)
    return least_lots(len(state), lambda lot: leaves_alone(web, rules, state, lot))


def decides(web, lot):
    """Whether just one state is left if a lot is held, whatever the rules and the moods are."""
    check_web(web)
    tops, _ = web
    check_lot(len(tops), lot)
    # What is left without the lot has a ring if the lot has nobody of some ring, and just then.
    return meets_all(lot, folk_of_rings(web))


def deciders(web):
    """The ascending tuple of the lots of folk that decide, as few as can be."""
    check_web(web)
    tops, _ = web
    return least_meeting(len(tops), folk_of_rings(web))
