"""Spots: how far a document has been read, and what may still come.

A spot is one of these tuples. Its last item is the number of a rest: what comes behind the value that is being read.

- ("value", part, rest): a value of this part is to come.
- ("word", text, rest): this text, which is not empty, is the end of the value.
- ("words", texts, rest): one of two or more such texts.
- ("text", start, letters, least, greatest, rest): within a string; between least and greatest letters are to come.
- ("digits", ranges, rest): within an integer; a range (size, least, greatest) stands for all rows of so many digits,
  1 or more of them, that are from least to greatest as numbers.
- ("name", text, part, rest): this text, which is not empty, and then a value of this part.
- ("opened", part, rest): behind the first bracket of a list or record of this part.
- ("ended", rest): behind the value.

A rest is END, or the number of a pair of a part, the rest of a list or a record, and the rest behind this one.
No document has two spots in the same list of spots, as the alternatives of an either have no value in common.
"""

from soonknown.grammar import NONE
from soonknown.lengths import Lengths
from soonknown.tallies import POWERS, common_size
from soonknown.values import DIGITS

END = 0


def digit_ranges(least, greatest):
    """Return the ranges of the integers from least to greatest that are not negative."""
    found = []
    for size in range(1, len(POWERS)):
        low = max(least, POWERS[size - 1] if size > 1 else 0)
        high = min(greatest, POWERS[size] - 1)
        if low <= high:
            found.append((size, low, high))
    return tuple(found)


def ranges_behind(ranges, digit):
    """Return the ranges of what may follow a digit; their size is 0 if nothing does."""
    found = []
    for size, least, greatest in ranges:
        unit = POWERS[size - 1]
        begin = unit * int(digit)
        if common_size(least, greatest, begin, begin + unit - 1) > 0:
            found.append((size - 1, max(least - begin, 0), min(greatest - begin, unit - 1)))
    return found


def add_to(moves, more):
    """Put what follows the characters of a dict to that of another one."""
    for sign, spots in more.items():
        moves.setdefault(sign, []).extend(spots)


class Spots:
    """The spots of a grammar, and the characters that lead from one to the next ones."""

    def __init__(self, grammar):
        self.grammar = grammar
        self.least_lengths = Lengths(grammar, False)
        self.rests = [(NONE, NONE)]
        self.rest_numbers = {}
        self.kept_moves = {}

    def rest(self, part, behind):
        """Return the number of the rest of a list or a record, with the rest behind it."""
        pair = (part, behind)
        if pair not in self.rest_numbers:
            self.rest_numbers[pair] = len(self.rests)
            self.rests.append(pair)
        return self.rest_numbers[pair]

    def spots_after(self, spots, sign):
        """Return the spots to which a character leads from some spots; an empty list if it cannot come."""
        found = []
        for spot in spots:
            found.extend(self.moves(spot).get(sign, []))
        return found

    def signs(self, spots):
        """Return the characters that may come at some spots, in ascending order."""
        found = {}
        for spot in spots:
            for sign in self.moves(spot):
                found[sign] = True
        return sorted(found)

    def moves(self, spot):
        """Return a dict from the characters that may come at a spot to the spots to which they lead."""
        if spot not in self.kept_moves:
            self.kept_moves[spot] = self.moves_of(spot)
        return self.kept_moves[spot]

    def moves_of(self, spot):
        """Return the moves of a spot that have not been kept yet."""
        form = spot[0]
        if form == "value":
            return self.first_moves(self.grammar.parts[spot[1]], spot[1], spot[2])
        if form == "word":
            return {spot[1][0]: [self.word(spot[1][1:], spot[2])]}
        if form == "words":
            return self.moves_in_words(spot[1], spot[2])
        if form == "text":
            return self.moves_in_text(spot)
        if form == "digits":
            return self.digit_moves(spot[1], spot[2])
        if form == "name":
            return {spot[1][0]: [self.name(spot[1][1:], spot[2], spot[3])]}
        if form == "opened":
            return self.moves_in_container(spot[1], spot[2])
        return {} if spot[1] == END else self.moves_behind(spot[1])

    def first_moves(self, part, number, rest):
        """Return the moves where a value is to come."""
        form = part[0]
        if form == "words":
            return self.moves_in_words(part[1], rest)
        if form == "text":
            return {'"': [("text", part[1], part[2], part[3], part[4], rest)]}
        if form == "integer":
            return self.moves_at_integer(part[1], part[2], rest)
        if form == "list":
            return {"[": [("opened", number, rest)]}
        if form == "record":
            return {"{": [("opened", number, rest)]}
        found = {}
        for alternative in part[1]:
            add_to(found, self.moves(("value", alternative, rest)))
        return found

    def word(self, text, rest):
        """Return the spot in front of the end of a value."""
        return ("word", text, rest) if text != "" else ("ended", rest)

    def name(self, text, part, rest):
        """Return the spot in front of a text and a value; NONE as the part if the text is the end of the value."""
        if part == NONE:
            return self.word(text, rest)
        return ("name", text, part, rest) if text != "" else ("value", part, rest)

    def moves_in_words(self, texts, rest):
        """Return the moves in front of one of some texts."""
        ends = {}
        for text in texts:
            ends.setdefault(text[0], []).append(text[1:])
        found = {}
        for sign, words in ends.items():
            found[sign] = [self.word(words[0], rest) if len(words) == 1 else ("words", tuple(words), rest)]
        return found

    def moves_in_text(self, spot):
        """Return the moves within a string."""
        _, start, letters, least, greatest, rest = spot
        if start != "":
            return {start[0]: [("text", start[1:], letters, least - 1, greatest - 1, rest)]}
        found = {}
        if greatest > 0:
            later = ("text", "", letters, max(least - 1, 0), greatest - 1, rest)
            for letter in letters:
                found[letter] = [later]
        if least == 0:
            found['"'] = [("ended", rest)]
        return found

    def moves_at_integer(self, least, greatest, rest):
        """Return the moves where an integer is to come."""
        found = self.digit_moves(digit_ranges(least, greatest), rest)
        negative = digit_ranges(max(-greatest, 1), -least)
        if negative != ():
            found["-"] = [("digits", negative, rest)]
        return found

    def digit_moves(self, ranges, rest):
        """Return the moves in front of a row of digits of some ranges."""
        found = {}
        for digit in DIGITS:
            behind = ranges_behind(ranges, digit)
            longer = tuple([row for row in behind if row[0] > 0])
            if longer != ():
                found[digit] = [("digits", longer, rest)]
            if len(longer) < len(behind):
                found.setdefault(digit, []).append(("ended", rest))
        return found

    def moves_in_container(self, number, rest):
        """Return the moves behind the first bracket of a list or a record."""
        part = self.grammar.parts[number]
        found = {}
        if part[0] == "list" and part[4] > 0:
            add_to(found, self.moves(("value", self.grammar.head(number), self.rest_behind_item(number, rest))))
        if part[0] == "record":
            for spot in self.members_next(number, rest):
                add_to(found, self.moves(spot))
        return self.with_closing(found, number, rest)

    def moves_behind(self, number):
        """Return the moves behind an item or a member of the list or record that a rest is of."""
        part, rest = self.rests[number]
        found = {}
        told = self.grammar.parts[part]
        if told[0] == "members" and told[1] != ():
            found[","] = self.members_next(part, rest)
        if told[0] == "items" and told[4] > 0:
            found[","] = [("value", self.grammar.head(part), self.rest_behind_item(part, rest))]
        return self.with_closing(found, part, rest)

    def rest_behind_item(self, number, rest):
        """Return the rest behind the next item of a list or of the rest of one."""
        return self.rest(self.grammar.behind(number), rest)

    def members_next(self, number, rest):
        """Return the spots in front of the members that may come next of a record or of the rest of one."""
        found = self.grammar.next_members(number)
        return [self.name(text, part, self.rest(later, rest)) for text, part, later in found]

    def with_closing(self, moves, number, rest):
        """Return moves, and that by the closing bracket of a list or record if it may come."""
        if self.grammar.may_end(number):
            sign = "}" if self.grammar.parts[number][0] in ("record", "members") else "]"
            moves[sign] = [("ended", rest)]
        return moves

    def shortest(self, spot):
        """Return the least number of characters that are missing at a spot."""
        return self.shortest_in_value(spot) + self.shortest_behind(spot[-1])

    def shortest_in_value(self, spot):
        """Return the least number of characters up to the end of the value that is being read."""
        form = spot[0]
        if form == "value":
            return self.least_lengths.length_of(spot[1])
        if form == "word":
            return len(spot[1])
        if form == "words":
            return min([len(text) for text in spot[1]])
        if form == "text":
            return spot[3] + 1
        if form == "digits":
            return min([row[0] for row in spot[1]])
        if form == "name":
            return len(spot[1]) + self.least_lengths.length_of(spot[2])
        return self.least_lengths.length_of(spot[1]) - 1 if form == "opened" else 0

    def shortest_behind(self, rest):
        """Return the least number of characters of a rest and those behind it."""
        found = 0
        while rest != END:
            part, rest = self.rests[rest]
            found = found + self.least_lengths.length_of(part)
        return found
