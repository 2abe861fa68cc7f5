"""The cheapest repairs of a text: all paths of least cost through the places of the text and an automaton.

A place is (number of characters of the text, state). A move is tight if some cheapest repair from its first place on
makes it; so exactly the tight moves that are reached from the start are made by cheapest repairs.
"""

from soonknown.flows import backward_flow, end_costs
from soonknown.machines import ascending_order

# More than any repair makes characters: costs times this have room for a number of characters.
SCALE = 10 ** 6


class Tally:
    """The cheapest repairs of a text, counted: how many there are, and which characters they keep."""

    def __init__(self, states, text, put, drop, swap):
        self.state_rows = states
        self.given_text = text
        self.prices = (put, drop, swap)
        self.costs = backward_flow(states, put, drop, swap).rows(end_costs(states), text[::-1])[::-1]
        # For each place how many ways cheapest repairs have to it; and for each character whether some keep it, and
        # whether some do not.
        self.ways = [[0] * len(states) for _ in range(len(text) + 1)]
        self.is_kept = [False] * len(text)
        self.is_changed = [False] * len(text)
        self.ways[0][0] = 1
        order = ascending_order(states)
        for read in range(len(text) + 1):
            for at in order:
                if self.ways[read][at] > 0:
                    self.add_puts(read, at)
                    if read < len(text):
                        self.add_others(read, at)

    def add_puts(self, read, at):
        """Add the ways that go on from a place by puts."""
        costs = self.costs[read]
        ways = self.ways[read]
        many = ways[at]
        left = costs[at] - self.prices[0]
        for _, later in self.state_rows[at][1]:
            if costs[later] == left:
                ways[later] += many

    def add_others(self, read, at):
        """Add the ways that go on from a place by a drop, a swap or a keep."""
        costs = self.costs[read + 1]
        ways = self.ways[read + 1]
        many = self.ways[read][at]
        cost = self.costs[read][at]
        own = self.given_text[read]
        if costs[at] + self.prices[1] == cost:
            self.is_changed[read] = True
            ways[at] += many
        left = cost - self.prices[2]
        for sign, later in self.state_rows[at][1]:
            if sign == own:
                if costs[later] == cost:
                    self.is_kept[read] = True
                    ways[later] += many
            elif costs[later] == left:
                self.is_changed[read] = True
                ways[later] += many

    def total(self):
        """Return the number of cheapest repairs."""
        return sum([many for many, state in zip(self.ways[-1], self.state_rows) if state[0]])

    def kept_signs(self):
        """Return for each character of the text how often cheapest repairs keep it."""
        found = []
        for at in range(len(self.given_text)):
            always = "sometimes" if self.is_changed[at] else "always"
            found.append(always if self.is_kept[at] else "never")
        return found


class Nearest:
    """The cheapest repairs of a text that make as few characters as they can."""

    def __init__(self, states, text, put, drop, swap):
        self.state_rows = states
        self.given_text = text
        # Each character that is made costs a little, so that of all cheapest repairs those are cheapest now.
        self.put_price = put * SCALE + 1
        self.drop_price = drop * SCALE
        self.swap_price = swap * SCALE + 1
        flow = backward_flow(states, self.put_price, self.drop_price, self.swap_price, 1)
        self.costs = flow.rows(end_costs(states), text[::-1])[::-1]

    def text(self):
        """Return the first one of the texts that they make."""
        places = [(0, 0)]
        signs = []
        for _ in range(self.costs[0][0] % SCALE):
            choice = {}
            for place in self.with_drops(places):
                self.add_choice(place, choice)
            sign = min(list(choice))
            signs.append(sign)
            places = list(choice[sign])
        return "".join(signs)

    def with_drops(self, places):
        """Return some places and those that are reached from there by tight drops."""
        found = {}
        for read, at in places:
            found[(read, at)] = True
            while read < len(self.given_text) and self.costs[read][at] == self.costs[read + 1][at] + self.drop_price:
                read += 1
                found[(read, at)] = True
        return list(found)

    def add_choice(self, place, choice):
        """Put the places that are reached from a place by tight moves to those of the characters that these make."""
        read, at = place
        cost = self.costs[read][at]
        is_last = read == len(self.given_text)
        own = "" if is_last else self.given_text[read]
        below = self.costs[read if is_last else read + 1]
        for sign, later in self.state_rows[at][1]:
            if self.costs[read][later] + self.put_price == cost:
                choice.setdefault(sign, {})[(read, later)] = True
            if not is_last and below[later] + (1 if sign == own else self.swap_price) == cost:
                choice.setdefault(sign, {})[(read + 1, later)] = True
