"""Gaps: what may stand between a text before and a text after in the texts of a language."""

from soonknown.changeerrors import NothingBetween
from soonknown.errors import NotOffered, TooFar
from soonknown.languages import Language
from soonknown.machines import NOWHERE, least_states
from soonknown.searches import is_live, next_size, shorter_sizes


class Gap:
    """A gap: it has at least one text, and both of its ends can be moved."""

    def __init__(self, language, before="", after=""):
        self._language = language
        self._net = language.net
        self._before = before
        self._after = after
        # The states along the text before, and the sets of states from which the ends of the text after are read.
        self._path = [0]
        self._sets = [self._net.ends]
        # (before, after, path, sets) as they were before each call that can be taken back.
        self._calls = []
        for sign in before:
            self._path.append(self._net.step_dicts[self._path[-1]].get(sign, NOWHERE))
        for sign in after[::-1]:
            self._sets.append(self._net.set_before(self._sets[-1], sign))
        if self._path[-1] == NOWHERE or not self._net.leads_into(self._path[-1], self._sets[-1]):
            raise NothingBetween((before, after))

    @property
    def before(self):
        """The text in front of the gap."""
        return self._before

    @property
    def after(self):
        """The text behind the gap."""
        return self._after

    @property
    def first(self):
        """The list of the characters that may come first, ascending."""
        return self._net.signs_towards(self._path[-1], self._sets[-1])

    @property
    def last(self):
        """The list of the characters that may come last, ascending."""
        return self._net.signs_into(self._path[-1], self._sets[-1])

    @property
    def forced(self):
        """The longest text with which all middles begin."""
        return self._net.forced_begin(self._path[-1], self._sets[-1])

    @property
    def forced_last(self):
        """The longest text with which all middles end."""
        return self._net.forced_end(self._path[-1], self._sets[-1])

    @property
    def closed(self):
        """Whether the empty text is a middle."""
        return self._sets[-1] >> self._path[-1] & 1 == 1

    def __eq__(self, other):
        if not isinstance(other, Gap):
            return False
        return self._language == other._language and self._before == other._before and self._after == other._after

    def middles(self):
        """Return the language of the middles."""
        rows = []
        numbers = {}
        for at in self._net.order[::-1]:
            if self._net.reached[self._path[-1]] >> at & 1 == 1:
                steps = [(sign, numbers[later]) for sign, later in self._net.state_rows[at][1]]
                numbers[at] = len(rows)
                rows.append((self._sets[-1] >> at & 1 == 1, steps))
        return Language(least_states(rows))

    def fitting(self):
        """Return the language of the texts of the gap."""
        rows = self._rows_behind()
        for sign in self._before[::-1]:
            rows.append((False, [(sign, len(rows) - 1)]))
        return Language(least_states(rows))

    def _rows_behind(self):
        """Return rows of what follows the text before in the texts of the gap; the last one is the start.

        Each is for a state and for how much of the text after has just been read, behind the text before.
        """
        moves = self._moves_behind()
        rows = []
        numbers = {}
        for at in self._net.order[::-1]:
            for size in moves.get(at, {}):
                numbers[(at, size)] = len(rows)
                accepting = self._net.ends >> at & 1 == 1 and size == len(self._after)
                rows.append((accepting, [(sign, numbers[place]) for sign, place in moves[at][size]]))
        return rows

    def _moves_behind(self):
        """Return a dict from states to dicts from sizes to the moves (character, (state, size)) from there."""
        shorter = shorter_sizes(self._after)
        found = {}
        reached = [(self._path[-1], 0)]
        seen = {reached[0]: True}
        at = 0
        while at < len(reached):
            state, size = reached[at]
            moves = []
            for sign, later in self._net.state_rows[state][1]:
                place = (later, next_size(self._after, shorter, size, sign))
                if is_live(self._net, self._sets, shorter, place):
                    moves.append((sign, place))
                    if place not in seen:
                        seen[place] = True
                        reached.append(place)
            found.setdefault(state, {})[size] = moves
            at += 1
        return found

    def put(self, text):
        """Put characters at the end of the text before."""
        path = list(self._path)
        for step, sign in enumerate(text):
            later = self._net.step_dicts[path[-1]].get(sign, NOWHERE)
            if later == NOWHERE or not self._net.leads_into(later, self._sets[-1]):
                raise NotOffered(len(self._before) + step)
            path.append(later)
        self._change(self._before + text, self._after, path, self._sets)

    def put_last(self, text):
        """Put characters at the beginning of the text after, the last one first."""
        sets = list(self._sets)
        for step, sign in enumerate(text[::-1]):
            group = self._net.set_before(sets[-1], sign)
            if not self._net.leads_into(self._path[-1], group):
                raise NotOffered(len(self._after) + step)
            sets.append(group)
        self._change(self._before, text + self._after, self._path, sets)

    def drop(self, number):
        """Take characters off the end of the text before."""
        if number > len(self._before):
            raise TooFar(number)
        size = len(self._before) - number
        self._change(self._before[:size], self._after, self._path[:size + 1], self._sets)

    def drop_last(self, number):
        """Take characters off the beginning of the text after."""
        if number > len(self._after):
            raise TooFar(number)
        size = len(self._after) - number
        self._change(self._before, self._after[number:], self._path, self._sets[:size + 1])

    def _change(self, before, after, path, sets):
        """Change both ends, and record how they were."""
        self._calls.append((self._before, self._after, self._path, self._sets))
        self._set_ends(before, after, path, sets)

    def _set_ends(self, before, after, path, sets):
        """Change both ends. The lists are never changed later, so they may stand in the record, too."""
        self._before = before
        self._after = after
        self._path = path
        self._sets = sets

    def undo(self, number):
        """Take back the last calls that changed the ends."""
        if number > len(self._calls):
            raise TooFar(number)
        if number > 0:
            size = len(self._calls) - number
            before, after, path, sets = self._calls[size]
            self._set_ends(before, after, path, sets)
            self._calls = self._calls[:size]

    def fork(self):
        """Return a new gap with the same language, texts and record."""
        gap = Gap(self._language, self._before, self._after)
        gap._calls = list(self._calls)
        return gap
