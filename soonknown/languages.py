"""Languages: finite sets of texts, told by their least automata."""

from soonknown.automata import automaton
from soonknown.changeerrors import NoSuchText, NotInside
from soonknown.machines import NOWHERE, OF_BOTH, OF_EITHER, OF_FIRST_ONLY, OF_ONE_ONLY, combined, counts_of
from soonknown.machines import moves_of_states, state_behind, states_of_texts, states_up_to, text_outside
from soonknown.nets import Net
from soonknown.values import is_whole


class Language:
    """A finite set of texts. It never changes."""

    def __init__(self, states):
        self._states = list(states)
        self._moves = moves_of_states(states)
        # For each state how many texts are accepted from there on.
        self._many = counts_of(states)
        self.count = self._many[0]
        self._kept_net = None

    @classmethod
    def of(cls, schema, *, bound=2000):
        """Return the language of the documents of the values of a schema."""
        return cls(automaton(schema, bound=bound))

    @classmethod
    def listed(cls, texts):
        """Return the language of a list of texts."""
        return cls(states_of_texts(texts))

    @property
    def net(self):
        """What leads where in the automaton."""
        if self._kept_net is None:
            self._kept_net = Net(self._states)
        return self._kept_net

    def states(self):
        """Return the automaton."""
        return list(self._states)

    def __bool__(self):
        return bool(self.count > 0)

    def __contains__(self, text):
        if not isinstance(text, str):
            return False
        at = state_behind(self._moves, text)
        return at != NOWHERE and self._states[at][0]

    def __iter__(self):
        raise TypeError("the texts of a language are read by their numbers")

    def __eq__(self, other):
        return isinstance(other, Language) and self._states == other._states

    def __and__(self, other):
        return Language(combined(self._states, other._states, OF_BOTH))

    def __or__(self, other):
        return Language(combined(self._states, other._states, OF_EITHER))

    def __sub__(self, other):
        return Language(combined(self._states, other._states, OF_FIRST_ONLY))

    def __xor__(self, other):
        return Language(combined(self._states, other._states, OF_ONE_ONLY))

    def __getitem__(self, number):
        if not is_whole(number) or not 0 <= number < self.count:
            raise NoSuchText(self.count)
        signs = []
        at = 0
        left = number
        while not (left == 0 and self._states[at][0]):
            # A text comes before those that go on behind it.
            left = left - int(self._states[at][0])
            for sign, later in self._states[at][1]:
                if left < self._many[later]:
                    break
                left = left - self._many[later]
            signs.append(sign)
            at = later
        return "".join(signs)

    def rank_of(self, text):
        """Return the number of a text."""
        if text not in self:
            raise NotInside(text)
        number = 0
        at = 0
        for sign in text:
            accepting, steps = self._states[at]
            number = number + int(accepting) + sum([self._many[later] for other, later in steps if other < sign])
            at = self._moves[at][sign]
        return number

    def lengths(self):
        """Return the list of the numbers of texts of each length, from 0 to the greatest one."""
        found = []
        ways = {0: 1} if self else {}
        while ways != {}:
            found.append(sum([many for at, many in ways.items() if self._states[at][0]]))
            further = {}
            for at, many in ways.items():
                for _, later in self._states[at][1]:
                    further[later] = further.get(later, 0) + many
            ways = further
        return found

    def upto(self, limit):
        """Return the language of the texts with at most so many characters."""
        return Language(states_up_to(self._states, limit))

    def within(self, other):
        """Return whether all texts are in another language."""
        return text_outside(self._states, other._states) is None
