"""A mender: it reads characters, and tells what it costs to mend them."""

from soonknown.changeerrors import NoTexts
from soonknown.errors import TooFar
from soonknown.flows import forward_flow, start_costs
from soonknown.repairs import nearest_text, repair


class Mender:
    """A reader of any characters, with a language into which they should lead."""

    def __init__(self, language, *, put=1, drop=1, swap=1):
        if not language:
            raise NoTexts("")
        self._language = language
        self._prices = (put, drop, swap)
        self._text = ""
        states = language.states()
        self._flow = forward_flow(states, put, drop, swap)
        # For each beginning of the text the least costs to come from there to each state.
        self._rows = self._flow.rows(start_costs(states), "")

    def __len__(self):
        return len(self._text)

    def __eq__(self, other):
        if not isinstance(other, Mender):
            return False
        return self._language == other._language and self._prices == other._prices and self._text == other._text

    def __iadd__(self, text):
        self.feed(text)
        return self

    @property
    def least(self):
        """The least cost of a script to a beginning of a text of the language."""
        return min(self._rows[-1])

    @property
    def price(self):
        """The distance of the text to the language."""
        return min([cost for cost, state in zip(self._rows[-1], self._language.states()) if state[0]])

    @property
    def welcome(self):
        """The list of the characters with which the least cost stays the same, ascending."""
        row = self._rows[-1]
        least = min(row)
        found = {}
        for cost, state in zip(row, self._language.states()):
            if cost == least:
                for sign, _ in state[1]:
                    found[sign] = True
        return sorted(found)

    def feed(self, text):
        """Read the characters of a text, and return the list of the least costs behind each of them."""
        rows = []
        row = self._rows[-1]
        for sign in text:
            row = self._flow.next_row(row, sign)
            rows.append(row)
        self._rows = self._rows + rows
        self._text = self._text + text
        return [min(row) for row in rows]

    def text(self):
        """Return what has been read."""
        return self._text

    def nearest(self):
        """Return the nearest text to what has been read."""
        put, drop, swap = self._prices
        return nearest_text(self._language, self._text, put=put, drop=drop, swap=swap)

    def repair(self):
        """Return a cheapest repair that leads to the nearest text."""
        put, drop, swap = self._prices
        return repair(self._language, self._text, put=put, drop=drop, swap=swap)

    def back(self, number):
        """Take the last characters back."""
        if number > len(self._text):
            raise TooFar(number)
        size = len(self._text) - number
        self._text = self._text[:size]
        self._rows = self._rows[:size + 1]

    def fork(self):
        """Return a new mender with the same language, prices and text."""
        put, drop, swap = self._prices
        mender = Mender(self._language, put=put, drop=drop, swap=swap)
        mender._text = self._text
        # The lists are never changed: each call makes new ones.
        mender._rows = self._rows
        return mender
