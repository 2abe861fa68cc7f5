"""The least costs of scripts, place by place: rows with one cost for each state of an automaton.

The costs of a row are those behind so many characters of a text, forward from its beginning or backward from its end.
"""

from soonknown.machines import ascending_order

# More than any script costs.
ENDLESS = 10 ** 18


def forward_flow(states, put, drop, swap):
    """Return the flow from the start of an automaton on."""
    pairs = [(sign, at, later) for at, state in enumerate(states) for sign, later in state[1]]
    return Flow(ascending_order(states), pairs, (put, drop, swap, 0))


def backward_flow(states, put, drop, swap, keep=0):
    """Return the flow from the ends of an automaton back."""
    pairs = [(sign, later, at) for at, state in enumerate(states) for sign, later in state[1]]
    return Flow(ascending_order(states)[::-1], pairs, (put, drop, swap, keep))


def start_costs(states):
    """Return what it costs to be at the start in front of everything, for each state."""
    return [0, *[ENDLESS for _ in states[1:]]]


def end_costs(states):
    """Return what it costs to be at an end behind everything, for each state."""
    return [0 if state[0] else ENDLESS for state in states]


class Flow:
    """How costs go on, with each character, along moves from state to state. It never changes."""

    def __init__(self, order, pairs, prices):
        self.prices = prices
        # For each character the moves by it, as pairs of states.
        self.by_sign = {}
        sources = [{} for _ in order]
        for sign, source, at in pairs:
            self.by_sign.setdefault(sign, []).append((source, at))
            sources[at][source] = True
        # (state, one of the states from which moves lead to it, the others), each behind those that lead to it.
        self.links = [(at, *split(list(sources[at]))) for at in order if sources[at] != {}]

    def with_puts(self, costs):
        """Return a row of costs in which what follows by puts is not dearer than that."""
        price = self.prices[0]
        row = list(costs)
        for at, source, others in self.links:
            cost = row[source]
            if others != ():
                cost = min(cost, min([row[other] for other in others]))
            if cost + price < row[at]:
                row[at] = cost + price
        return row

    def crossed(self, row, sign):
        """Return the costs behind another character that is dropped, swapped or kept."""
        _, drop, price, keep = self.prices
        found = [cost + drop for cost in row]
        for at, source, others in self.links:
            cost = row[source]
            if others != ():
                cost = min(cost, min([row[other] for other in others]))
            if cost + price < found[at]:
                found[at] = cost + price
        for source, at in self.by_sign.get(sign, ()):
            if row[source] + keep < found[at]:
                found[at] = row[source] + keep
        return found

    def next_row(self, row, sign):
        """Return the row behind another character."""
        return self.with_puts(self.crossed(row, sign))

    def rows(self, costs, text):
        """Return the list of the rows behind each beginning of a text, the empty one first."""
        found = [self.with_puts(costs)]
        for sign in text:
            found.append(self.next_row(found[-1], sign))
        return found


def split(sources):
    """Return the first one of some states, and a tuple of the others."""
    return sources[0], tuple(sources[1:])
