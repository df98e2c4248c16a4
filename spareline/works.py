"""A works: a net that deeds change, with lines under repair; each deed can be undone."""

from spareline.changes import built, dropped, first_state, groups_made, left, rested, resumed, settled
from spareline.errors import NoDeed
from spareline.nets import lines_in, net_joined


class Works:
    def __init__(self, net):
        # The first state, and the one behind each deed that stands. No state is ever changed: so an undoing goes
        # back to just what was, and what was undone leaves nothing behind.
        self.states = [first_state(net)]
        self.deeds = []

    def settle(self, place):
        return self.enter(("settle", place), settled(self.states[-1], place))

    def leave(self, place):
        return self.enter(("leave", place), left(self.states[-1], place))

    def build(self, one, other, strength):
        return self.enter(("build", one, other, strength), built(self.states[-1], one, other, strength))

    def drop(self, one, other):
        return self.enter(("drop", one, other), dropped(self.states[-1], one, other))

    def shut(self, one, other):
        return self.enter(("shut", one, other), rested(self.states[-1], one, other))

    def reopen(self, one, other):
        return self.enter(("reopen", one, other), resumed(self.states[-1], one, other))

    def undo(self):
        if not self.deeds:
            raise NoDeed()
        self.deeds.pop()
        ahead = self.states.pop()
        return groups_made(ahead, self.states[-1])

    def now(self):
        return net_joined(self.states[-1][0], [])

    def idle(self):
        return lines_in(self.states[-1][1])

    def days(self):
        return list(self.deeds)

    def enter(self, deed, state):
        """Keeps a deed that was not refused, with the state behind it."""
        ahead = self.states[-1]
        self.states.append(state)
        self.deeds.append(deed)
        return groups_made(ahead, state)
