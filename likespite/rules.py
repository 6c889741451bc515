"""Tables, rules and states, and how folk settle by them."""

from likespite.errors import BadNumber, BadRules, BadState
from likespite.webs import check_folk, check_web, is_whole, looks_of

MOST_TICKS = 200


def rows_of(tops):
    """All rows of moods of folk with these tops, ascending."""
    rows = [()]
    for top in tops:
        rows = [row + (mood,) for row in rows for mood in range(top + 1)]
    return rows


def many_rows(web, folk):
    """How many rows of moods one of the folk can see."""
    tops, _ = web
    many = 1
    for one, _ in looks_of(web, folk):
        many = many * (tops[one] + 1)
    return many


def ways_of(web, folk):
    """For each look of one of the folk, the last one first, how the rows of moods go along it.

    That is how far apart the rows of two neighbouring moods lie, how many moods there are, and the sign of the look.
    """
    tops, _ = web
    found = []
    # The mood of the last one looked at changes from each row to the next one.
    step = 1
    for one, sign in looks_of(web, folk)[::-1]:
        found.append((step, tops[one] + 1, sign))
        step = step * (tops[one] + 1)
    return found


def goes_along(table, step, size, sign):
    """Whether a table never goes against a sign as one of the moods seen rises alone (see ways_of)."""
    places = [place for place in range(len(table)) if (place // step) % size < size - 1]
    return all((table[place + step] - table[place]) * sign >= 0 for place in places)


def is_table(web, folk, value):
    """Whether a value is a table of one of the folk."""
    tops, _ = web
    if not isinstance(value, tuple) or len(value) != many_rows(web, folk):
        return False
    if not all(is_whole(mood, 0, tops[folk]) for mood in value):
        return False
    return all(goes_along(value, step, size, sign) for step, size, sign in ways_of(web, folk))


def check_rules(web, rules):
    """Refuse what is no rules of a web."""
    tops, _ = web
    if not isinstance(rules, tuple) or len(rules) != len(tops):
        raise BadRules(None)
    for folk, table in enumerate(rules):
        if not is_table(web, folk, table):
            raise BadRules(folk)


def is_state(web, value):
    """Whether a value is a state of a web."""
    tops, _ = web
    if not isinstance(value, tuple) or len(value) != len(tops):
        return False
    return all(is_whole(mood, 0, top) for mood, top in zip(value, tops))


def check_state(web, state):
    """Refuse what is no state of a web."""
    if not is_state(web, state):
        raise BadState()


def check_standing(web, rules, state):
    """Refuse what is no web, no rules of it or no state of it, in this sequence."""
    check_web(web)
    check_rules(web, rules)
    check_state(web, state)


def place_seen(web, state, folk):
    """The place, among the rows of moods that one of the folk can see, of the row in a state."""
    tops, _ = web
    place = 0
    for one, _ in looks_of(web, folk):
        place = place * (tops[one] + 1) + state[one]
    return place


def mood_told(web, rules, state, folk):
    """The mood that the table of one of the folk tells in a state."""
    return rules[folk][place_seen(web, state, folk)]


def state_told(web, rules, state):
    """The state in which everybody has the mood that theirs tells in a state."""
    return tuple([mood_told(web, rules, state, folk) for folk in range(len(state))])


def lot_told(web, rules, state, lot):
    """The state in which those of a lot alone have taken over what their tables tell."""
    return tuple([mood_told(web, rules, state, folk) if folk in lot else mood for folk, mood in enumerate(state)])


def uneasy_folk(web, rules, state):
    """The ascending list of those whose mood isn't what their table tells."""
    return [folk for folk, mood in enumerate(state) if mood_told(web, rules, state, folk) != mood]


def settled_states(web, rules):
    """The ascending tuple of all settled states."""
    tops, _ = web
    return tuple([state for state in rows_of(tops) if state_told(web, rules, state) == state])


def told(web, rules, state, folk):
    """The mood that the table of one of the folk tells in a state."""
    check_standing(web, rules, state)
    check_folk(web, folk)
    return mood_told(web, rules, state, folk)


def is_settled(web, rules, state):
    """Whether everybody has the mood that their table tells."""
    check_standing(web, rules, state)
    return state_told(web, rules, state) == state


def settled(web, rules):
    """The ascending tuple of all settled states."""
    check_web(web)
    check_rules(web, rules)
    return settled_states(web, rules)


def run(web, rules, state, ticks):
    """The tuple of the states at the ticks from 0, which is now, to a last one."""
    check_standing(web, rules, state)
    if not is_whole(ticks, 0, MOST_TICKS):
        raise BadNumber()
    states = [state]
    for _ in range(ticks):
        states.append(state_told(web, rules, states[-1]))
    return tuple(states)


def settled_by(web, rules, state):
    """The first tick at which the state is settled, None if it never is."""
    check_standing(web, rules, state)
    # A state that comes again, not being settled, comes again and again: then there is no such tick.
    seen = set()
    now = state
    while now not in seen:
        seen.add(now)
        later = state_told(web, rules, now)
        if later == now:
            return len(seen) - 1
        now = later
    return None
