"""Trails: the states that a search has met, in the order in which it met them."""


class Trail:
    """The states from which a search goes on, each shape of them once, with the way that led there first."""

    def __init__(self):
        self._shapes = {}
        self._states = []
        self._links = []

    def meet(self, shape, state, former, step):
        """Keep a state unless one of its shape was met; a step led to it from the state with the index former."""
        if shape not in self._shapes:
            self._shapes[shape] = True
            self._states.append(state)
            self._links.append((former, step))

    def search(self, go_on):
        """Go on from each state in its turn, also from those that are met meanwhile, until something is found.

        go_on gets the index of a state, and returns what it finds or None. Returns (index, found), None for nothing.
        """
        at = 0
        while at < len(self._states):
            found = go_on(at)
            if found is not None:
                return at, found
            at += 1
        return None

    def state(self, at):
        """The state with this index."""
        return self._states[at]

    def steps(self, at):
        """The steps that led to the state with this index; the first one is that with which its start was met."""
        found = []
        while at is not None:
            at, step = self._links[at]
            found.append(step)
        return found[::-1]
