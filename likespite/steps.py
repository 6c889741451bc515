"""Looks again, one by one: where they lead."""

from likespite.rules import check_rules, check_standing, check_state, lot_told, rows_of, uneasy_folk
from likespite.webs import check_web, is_whole


def states_next(web, rules, state):
    """The states to which a look again leads from a state, for each of the folk in turn."""
    return [lot_told(web, rules, state, (folk,)) for folk in range(len(state))]


def ways_from(web, rules, state):
    """For each state to which looks again lead from a state a tuple of the folk who look, as few as can be."""
    ways = {state: ()}
    found = [state]
    place = 0
    # The states are found in the sequence of how many looks again lead to them, so no later way is of fewer folk.
    while place < len(found):
        now = found[place]
        for folk, later in enumerate(states_next(web, rules, now)):
            if later not in ways:
                ways[later] = ways[now] + (folk,)
                found.append(later)
        place += 1
    return ways


def leads_to(web, rules, state, goal, folk_again):
    """Whether looks again of some folk lead, in this sequence, from a state to another one."""
    now = state
    for folk in folk_again:
        now = lot_told(web, rules, now, (folk,))
    return now == goal


def led_along(steps, start, among):
    """The states to which steps lead from one of them, going among some alone, as the keys of a dict."""
    found = {start: True}
    left = [start]
    while left:
        state = left.pop()
        for other in steps[state]:
            if other in among and other not in found:
                found[other] = True
                left.append(other)
    return found


def turned_back(steps):
    """For each state those from which a step leads to it."""
    found = {state: [] for state in steps}
    for state in steps:
        for other in steps[state]:
            found[other].append(state)
    return found


def stays(steps, lot):
    """Whether no step leads outside of a lot of states."""
    outside = [other for state in lot for other in steps[state] if other not in lot]
    return not outside


def all_ends(web, rules):
    """The ascending tuple of all ends."""
    tops, _ = web
    states = rows_of(tops)
    steps = {state: states_next(web, rules, state) for state in states}
    back = turned_back(steps)
    left = {state: True for state in states}
    found = []
    for state in states:
        if state in left:
            behind = led_along(back, state, left)
            # The states that lead to this one and to which it leads: all are among those left.
            lot = led_along(steps, state, behind)
            if stays(steps, lot):
                found.append(tuple(sorted(lot)))
            # Those that lead to the state, but not it to them, are of no end.
            for other in behind:
                del left[other]
    return tuple(sorted(found))


def come_to(web, rules, state):
    """The ascending tuple of the settled states to which looks again can lead from a state."""
    check_standing(web, rules, state)
    return tuple(sorted([later for later in ways_from(web, rules, state) if not uneasy_folk(web, rules, later)]))


def looks_to(web, rules, state, goal):
    """A tuple of folk, as few as can be, whose looks again lead from a state to another one, None if none do."""
    check_standing(web, rules, state)
    check_state(web, goal)
    return ways_from(web, rules, state).get(goal)


def shows_looks_to(web, rules, state, goal, value):
    """Whether a value is what looks_to may return."""
    check_standing(web, rules, state)
    check_state(web, goal)
    shortest = ways_from(web, rules, state).get(goal)
    if shortest is None:
        return value is None
    if not isinstance(value, tuple) or len(value) != len(shortest):
        return False
    if not all(is_whole(folk, 0, len(state) - 1) for folk in value):
        return False
    return leads_to(web, rules, state, goal, value)


def ends(web, rules):
    """The ascending tuple of all ends, lots of states that lead to one another by looks again, and to none outside."""
    check_web(web)
    check_rules(web, rules)
    return all_ends(web, rules)
