"""The least automata of schemas, and how schemas are compared by them."""

from soonknown.errors import TooManyStates
from soonknown.lengths import Lengths
from soonknown.machines import NOWHERE, renumbered
from soonknown.prefixes import COMPLETE, start


class Place:
    """A list of spots on the way through all documents, with what has been found out about it."""

    def __init__(self, told, accepting, later):
        self.told = told
        self.accepting = accepting
        # (character, key of the spots, spots) for each character that may come.
        self.later = later
        # (character, state) for those of them that have been followed.
        self.steps = []


class Builder:
    """What has been built of the automaton of a schema, from the ends of its documents on."""

    def __init__(self, ways, bound):
        self.ways = ways
        self.bound = bound
        self.spot_numbers = {}
        # For each list of spots that is done, its state. Two lists may have the same one.
        self.done = {}
        self.state_rows = []
        self.state_numbers = {}

    def key(self, spots):
        """Return what tells a list of spots from others, whatever their order."""
        numbers = []
        for spot in spots:
            if spot not in self.spot_numbers:
                self.spot_numbers[spot] = len(self.spot_numbers)
            numbers.append(self.spot_numbers[spot])
        return tuple(sorted(numbers))

    def place(self, key, spots):
        """Return the place of some spots."""
        later = {}
        for spot in spots:
            for sign, more in self.ways.moves(spot).items():
                later.setdefault(sign, []).extend(more)
        return Place(key, COMPLETE in spots, [(sign, self.key(later[sign]), later[sign]) for sign in sorted(later)])

    def build(self, spots):
        """Build all states from some spots on, and return the number of theirs.

        A state is done when all those behind it are, so that equal ones are found by what they are.
        """
        key = self.key(spots)
        waiting = [self.place(key, spots)]
        while waiting:
            place = waiting[-1]
            if len(place.steps) == len(place.later):
                self.done[place.told] = self.state(place)
                waiting.pop()
            else:
                sign, later, more = place.later[len(place.steps)]
                if later in self.done:
                    place.steps.append((sign, self.done[later]))
                else:
                    waiting.append(self.place(later, more))
        return self.done[key]

    def state(self, place):
        """Return the number of the state of a place of which all moves have been followed."""
        told = (place.accepting, tuple(place.steps))
        if told not in self.state_numbers:
            # Each state found is one of the least automaton, as different ones accept different texts.
            if len(self.state_rows) >= self.bound:
                raise TooManyStates(self.bound)
            self.state_numbers[told] = len(self.state_rows)
            self.state_rows.append(told)
        return self.state_numbers[told]


def automaton(schema, *, bound=2000):
    """Return the automaton of a schema: a list of (accepting, steps), a step being (character, next state)."""
    ways, spots = start(schema)
    # Behind each character of the longest document there is another state: this spares building far too much.
    if Lengths(ways.grammar, True).length_of(spots[0][1]) >= bound:
        raise TooManyStates(bound)
    builder = Builder(ways, bound)
    return renumbered(builder.state_rows, builder.build(spots))


def accepts(states, text):
    """Return whether an automaton accepts a text."""
    at = 0
    for sign in text:
        at = next_state(states, at, sign)
        if at == NOWHERE:
            return False
    return states[at][0]


def next_state(states, at, sign):
    """Return the state to which a character leads from another one, or NOWHERE."""
    if at != NOWHERE:
        for other, later in states[at][1]:
            if other == sign:
                return later
    return NOWHERE


def is_accepting(states, at):
    """Return whether a state accepts."""
    return at != NOWHERE and states[at][0]


def outside(first, second, *, bound=2000):
    """Return the first of the shortest documents of values that have the first but not the second schema, or None."""
    states = automaton(first, bound=bound)
    others = automaton(second, bound=bound)
    # A breadth-first search by ascending characters reaches each pair by the first of its shortest texts.
    reached = [("", 0, 0)]
    seen = {(0, 0): True}
    at = 0
    while at < len(reached):
        text, one, other = reached[at]
        if is_accepting(states, one) and not is_accepting(others, other):
            return text
        for sign, later in states[one][1]:
            pair = (later, next_state(others, other, sign))
            if pair not in seen:
                seen[pair] = True
                reached.append((text + sign, pair[0], pair[1]))
        at += 1
    return None


def equal(first, second, *, bound=2000):
    """Return whether two schemas have the same values."""
    return automaton(first, bound=bound) == automaton(second, bound=bound)
