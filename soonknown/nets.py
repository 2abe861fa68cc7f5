"""What leads where in an automaton. A set of its states is an integer: its binary digits say which are inside."""

from soonknown.machines import ascending_order, moves_of_states


def members_of(group):
    """Return the list of the states in a set."""
    found = []
    left = group
    while left > 0:
        lowest = left & -left
        found.append(lowest.bit_length() - 1)
        left = left ^ lowest
    return found


def reached_sets(states):
    """Return for each state the set of the states to which texts lead from it, itself among them."""
    found = [0] * len(states)
    for at in ascending_order(states)[::-1]:
        group = 1 << at
        for _, later in states[at][1]:
            group = group | found[later]
        found[at] = group
    return found


def sources_of(states):
    """Return for each state a dict from the characters of the steps to it to the sets of the states they come from."""
    found = [{} for _ in states]
    for at, state in enumerate(states):
        for sign, later in state[1]:
            found[later][sign] = found[later].get(sign, 0) | (1 << at)
    return found


def ends_of(states):
    """Return the set of the accepting states."""
    found = 0
    for at, state in enumerate(states):
        if state[0]:
            found = found | (1 << at)
    return found


class Net:
    """The steps of an automaton, from state to state forward and backward. It never changes."""

    def __init__(self, states):
        self.state_rows = states
        self.step_dicts = moves_of_states(states)
        self.order = ascending_order(states)
        self.reached = reached_sets(states)
        self.sources = sources_of(states)
        self.ends = ends_of(states)

    def leads_into(self, at, group):
        """Return whether some text leads from a state into a set."""
        return self.reached[at] & group != 0

    def signs_towards(self, at, group):
        """Return the characters with which texts that lead from a state into a set begin, in ascending order."""
        return [sign for sign, later in self.state_rows[at][1] if self.leads_into(later, group)]

    def signs_into(self, at, group):
        """Return the characters with which texts that lead from a state into a set end, in ascending order."""
        found = {}
        for later in members_of(self.reached[at] & group):
            for sign, sources in self.sources[later].items():
                if self.leads_into(at, sources):
                    found[sign] = True
        return sorted(found)

    def set_before(self, group, sign):
        """Return the set of the states from which a character leads into a set."""
        found = 0
        for later in members_of(group):
            found = found | self.sources[later].get(sign, 0)
        return found

    def forced_begin(self, at, group):
        """Return the longest text with which all texts that lead from a state into a set begin."""
        found = []
        place = at
        # Where the set itself is reached, a text ends that nothing has to follow.
        while group >> place & 1 == 0:
            signs = self.signs_towards(place, group)
            if len(signs) > 1:
                break
            found.append(signs[0])
            place = self.step_dicts[place][signs[0]]
        return "".join(found)

    def forced_end(self, at, group):
        """Return the longest text with which all texts that lead from a state into a set end."""
        found = []
        left = self.reached[at] & group
        while left >> at & 1 == 0:
            signs = self.signs_into(at, left)
            if len(signs) > 1:
                break
            found.append(signs[0])
            left = self.set_before(left, signs[0]) & self.reached[at]
        return "".join(found[::-1])
