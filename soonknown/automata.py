"""The least automata of schemas, and how schemas are compared by them."""

from soonknown.errors import TooManyStates
from soonknown.fixed import FixedTexts
from soonknown.lengths import Lengths
from soonknown.machines import NOWHERE, renumbered, text_outside
from soonknown.prefixes import COMPLETE, start
from soonknown.spots import add_to


class Place:
    """A list of spots on the way through all documents, by its key, and what may follow."""

    def __init__(self, told, accepting, run, later):
        self.told = told
        self.accepting = accepting
        # The characters that must come one after the other, if there is no choice; then one key stands behind them.
        self.run = run
        # (character, key of the spots behind it, these spots) for each character that may come.
        self.later = later
        # How many of these are known to be done.
        self.followed = 0


class Builder:
    """What has been built of the automaton of a schema, from the ends of its documents on."""

    def __init__(self, ways, bound):
        self.ways = ways
        self.bound = bound
        self.fixed = FixedTexts(ways.grammar)
        self.spot_numbers = {}
        # For each list of spots that is done, by its key, its state. Two lists may have the same one.
        self.done = {}
        self.state_rows = []
        self.state_numbers = {}

    def key(self, spots):
        """Return what tells a list of spots from others, whatever their order."""
        if len(spots) == 1:
            return spots[0]
        numbers = []
        for spot in spots:
            if spot not in self.spot_numbers:
                self.spot_numbers[spot] = len(self.spot_numbers)
            numbers.append(self.spot_numbers[spot])
        return tuple(sorted(numbers))

    def place(self, key, spots):
        """Return the place of some spots."""
        moves = {}
        if len(spots) == 1:
            text, behind = self.run_from(spots[0])
            if text != "":
                return Place(key, False, text, [("", behind, [behind])])
            moves = self.ways.moves(spots[0])
        else:
            for spot in spots:
                add_to(moves, self.ways.moves(spot))
        later = []
        for sign in sorted(moves):
            more = moves[sign]
            later.append((sign, more[0] if len(more) == 1 else self.key(more), more))
        return Place(key, COMPLETE in spots, "", later)

    def run_from(self, spot):
        """Return the text that must come at a spot, and the spot behind it; an empty text if there is a choice."""
        form = spot[0]
        if form == "word":
            return spot[1], ("ended", spot[2])
        if form == "name":
            return spot[1], ("value", spot[2], spot[3])
        if form == "value":
            return self.fixed.text_of(spot[1]), ("ended", spot[2])
        if form == "ended" and spot != COMPLETE:
            part, rest = self.ways.rests[spot[1]]
            return self.fixed.text_of(part), ("ended", rest)
        return "", spot

    def build(self, spots):
        """Build all states from some spots on, and return the number of theirs.

        A state is done when all those behind it are, so that equal ones are found by what they are.
        """
        first = self.key(spots)
        waiting = [self.place(first, spots)]
        while waiting:
            place = waiting[-1]
            while place.followed < len(place.later) and place.later[place.followed][1] in self.done:
                place.followed += 1
            if place.followed < len(place.later):
                _, key, more = place.later[place.followed]
                waiting.append(self.place(key, more))
            else:
                self.done[place.told] = self.state_of(place)
                waiting.pop()
        return self.done[first]

    def state_of(self, place):
        """Return the number of the state of a place if all that follows is done."""
        if place.run == "":
            return self.state((place.accepting, tuple([(sign, self.done[key]) for sign, key, _ in place.later])))
        number = self.done[place.later[0][1]]
        for sign in place.run[::-1]:
            number = self.state((False, ((sign, number),)))
        return number

    def state(self, told):
        """Return the number of the state that accepts or not, and has some steps."""
        number = self.state_numbers.get(told)
        if number is None:
            number = len(self.state_rows)
            # Each state found is one of the least automaton, as different ones accept different texts.
            if number >= self.bound:
                raise TooManyStates(self.bound)
            self.state_numbers[told] = number
            self.state_rows.append(told)
        return number


def automaton(schema, *, bound=2000):
    """Return the automaton of a schema: a list of (accepting, steps), a step being (character, next state)."""
    ways, spots = start(schema)
    # Behind each character of the longest document there is another state: this spares building far too much.
    if Lengths(ways.grammar, True).length_of(spots[0][1]) >= bound:
        raise TooManyStates(bound)
    builder = Builder(ways, bound)
    return renumbered(builder.state_rows, builder.build(spots))


def accepts(states, text):
    """Return whether an automaton accepts a text."""
    at = 0
    for sign in text:
        at = next_state(states[at][1], sign)
        if at == NOWHERE:
            return False
    return states[at][0]


def next_state(steps, sign):
    """Return the state to which one of some steps leads by a character, or NOWHERE."""
    for other, later in steps:
        if other == sign:
            return later
    return NOWHERE


def outside(first, second, *, bound=2000):
    """Return the first of the shortest documents of values that have the first but not the second schema, or None."""
    states = automaton(first, bound=bound)
    return text_outside(states, automaton(second, bound=bound))


def equal(first, second, *, bound=2000):
    """Return whether two schemas have the same values."""
    return automaton(first, bound=bound) == automaton(second, bound=bound)
