"""Benches: folk with a state who look again, are painted, and go back."""

from likespite.errors import BadNumber, BadStep
from likespite.rules import check_standing, check_state, lot_told, settled_states, state_told, uneasy_folk
from likespite.webs import check_folk, is_whole


def many_apart(state, other):
    """How many of the folk have another mood in one state than in the other one."""
    return len([folk for folk, mood in enumerate(state) if other[folk] != mood])


class Bench:
    """Folk with a state."""

    def __init__(self, web, rules, state):
        check_standing(web, rules, state)
        self._web = web
        self._rules = rules
        # The state now is the last one, those ahead of it are the ones to go back to.
        self._states = [state]

    def tick(self):
        """Let all look again at once."""
        self._states.append(state_told(self._web, self._rules, self.state))

    def look(self, folk):
        """Let one of the folk look again."""
        check_folk(self._web, folk)
        self._states.append(lot_told(self._web, self._rules, self.state, (folk,)))

    def paint(self, folk, mood):
        """Let one of the folk have a mood."""
        check_folk(self._web, folk)
        tops, _ = self._web
        if not is_whole(mood, 0, tops[folk]):
            raise BadNumber()
        now = self.state
        self._states.append(now[:folk] + (mood,) + now[folk + 1:])

    def back(self):
        """Take back the last tick, look or painting."""
        if len(self._states) == 1:
            raise BadStep()
        self._states.pop()

    def apart(self, other):
        """How many of the folk have another mood now than in a state."""
        check_state(self._web, other)
        return many_apart(self.state, other)

    @property
    def state(self):
        """The state now."""
        return self._states[-1]

    @property
    def uneasy(self):
        """The ascending tuple of those whose mood isn't what their table tells."""
        return tuple(uneasy_folk(self._web, self._rules, self.state))

    @property
    def near(self):
        """The settled state with the fewest other moods than now, of these the least, None without any."""
        now = self.state
        found = [(many_apart(now, other), other) for other in settled_states(self._web, self._rules)]
        if not found:
            return None
        _, nearest = min(found)
        return nearest
