"""Automata of finite sets of texts, as lists of states (accepting, steps), a step being (character, next state).

Everything here makes new lists and changes nothing that it is given, so that operators can call it. Rows are what may
still have equal or useless ones among them: (accepting, steps), each behind all rows to which its steps lead.
"""

from soonknown.knowledge import common_start

# Stands instead of a state where an automaton accepts nothing more.
NOWHERE = -1

# The states of the automaton that accepts nothing.
NOTHING = ((False, ()),)

# Which texts are wanted of two sets: those of neither, of the second one only, of the first one only, of both.
OF_BOTH = (False, False, False, True)
OF_EITHER = (False, True, True, True)
OF_FIRST_ONLY = (False, False, True, False)
OF_ONE_ONLY = (False, True, True, False)


def renumbered(states, first):
    """Return states in the order in which a breadth-first search reaches them, with their new numbers."""
    numbers = [NOWHERE] * len(states)
    numbers[first] = 0
    order = [first]
    found = []
    while len(found) < len(order):
        accepting, steps = states[order[len(found)]]
        row = []
        for sign, later in steps:
            if numbers[later] == NOWHERE:
                numbers[later] = len(order)
                order.append(later)
            row.append((sign, numbers[later]))
        found.append((accepting, tuple(row)))
    return found


def least_states(rows):
    """Return the states of the least automaton of rows, of which the last one is the start."""
    states = []
    numbers = {}
    places = []
    for accepting, steps in rows:
        told = (accepting, tuple([(sign, places[later]) for sign, later in steps if places[later] != NOWHERE]))
        if told == NOTHING[0]:
            places.append(NOWHERE)
        else:
            if told not in numbers:
                numbers[told] = len(states)
                states.append(told)
            places.append(numbers[told])
    if places == [] or places[-1] == NOWHERE:
        return list(NOTHING)
    return renumbered(states, places[-1])


def ascending_order(states):
    """Return the numbers of all states, each one before those to which its steps lead."""
    waiting = [0] * len(states)
    for _, steps in states:
        for _, later in steps:
            waiting[later] = waiting[later] + 1
    order = [0]
    at = 0
    while at < len(order):
        for _, later in states[order[at]][1]:
            waiting[later] = waiting[later] - 1
            if waiting[later] == 0:
                order.append(later)
        at = at + 1
    return order


def counts_of(states):
    """Return the list of the numbers of texts that are accepted from each state on."""
    found = [0] * len(states)
    for at in ascending_order(states)[::-1]:
        accepting, steps = states[at]
        found[at] = int(accepting) + sum([found[later] for _, later in steps])
    return found


def moves_of_states(states):
    """Return the list of the dicts from the characters of each state to the next states; behind it one for NOWHERE."""
    return [*[dict(steps) for _, steps in states], {}]


def state_behind(moves, text):
    """Return the state behind a text, or NOWHERE."""
    at = 0
    for sign in text:
        at = moves[at].get(sign, NOWHERE)
        if at == NOWHERE:
            return NOWHERE
    return at


def combined(first, second, wanted):
    """Return the states of the automaton of the wanted texts of two automata."""
    moves = moves_of_pairs(first, second, wanted)
    places = places_in_order(first)
    others = places_in_order(second)
    # Both members of a pair come before those to which they lead, so what is farthest from the start comes first.
    marked = sorted([(places[one] + others[other], one, other) for one, other in moves])
    numbers = {}
    rows = []
    for _, one, other in marked[::-1]:
        numbers[(one, other)] = len(rows)
        inside = 2 * int(accepts_at(first, one)) + int(accepts_at(second, other))
        rows.append((wanted[inside], [(sign, numbers[later]) for sign, later in moves[(one, other)]]))
    return least_states(rows)


def places_in_order(states):
    """Return the list of the places of the states in the ascending order; behind it the one of NOWHERE."""
    found = [len(states)] * (len(states) + 1)
    for place, at in enumerate(ascending_order(states)):
        found[at] = place
    return found


def accepts_at(states, at):
    """Return whether a state, or NOWHERE, accepts."""
    return at != NOWHERE and states[at][0]


def moves_of_pairs(first, second, wanted):
    """Return a dict from the pairs of states that are reached together to lists of (character, pair)."""
    firsts = moves_of_states(first)
    seconds = moves_of_states(second)
    reached = [(0, 0)]
    found = {(0, 0): []}
    at = 0
    while at < len(reached):
        one, other = reached[at]
        row = []
        for sign in sorted(set([*firsts[one], *seconds[other]])):
            pair = (firsts[one].get(sign, NOWHERE), seconds[other].get(sign, NOWHERE))
            if is_wanted(pair, wanted):
                row.append((sign, pair))
                if pair not in found:
                    found[pair] = []
                    reached.append(pair)
        found[reached[at]] = row
        at = at + 1
    return found


def is_wanted(pair, wanted):
    """Return whether a pair may lead to a text that is wanted."""
    if pair[0] == NOWHERE:
        return wanted[1]
    return pair[1] != NOWHERE or wanted[2]


def text_outside(first, second):
    """Return the first of the shortest texts of an automaton that are no texts of another one, or None."""
    seconds = moves_of_states(second)
    # A breadth-first search by ascending characters reaches each pair by the first of its shortest texts.
    reached = [("", 0, 0)]
    seen = {(0, 0): True}
    at = 0
    while at < len(reached):
        text, one, other = reached[at]
        if first[one][0] and not accepts_at(second, other):
            return text
        for sign, later in first[one][1]:
            pair = (later, seconds[other].get(sign, NOWHERE))
            if pair not in seen:
                seen[pair] = True
                reached.append((text + sign, pair[0], pair[1]))
        at = at + 1
    return None


def states_of_texts(texts):
    """Return the states of the automaton of a list of texts."""
    states = []
    numbers = {}
    before = ""
    # Along the last text: whether it ends there, and the steps that are done.
    opened = [(False, [])]
    # Ascending texts: what is behind the end of a common beginning gets no more steps.
    for text in [*sorted(texts), None]:
        shared = 0 if text is None else len(common_start(before, text))
        while len(opened) > shared + 1:
            accepting, steps = opened.pop()
            told = (accepting, tuple(steps))
            if told not in numbers:
                numbers[told] = len(states)
                states.append(told)
            opened[-1][1].append((before[len(opened) - 1], numbers[told]))
        if text is not None:
            opened.extend([(False, []) for _ in text[shared:]])
            opened[-1] = (True, opened[-1][1])
            before = text
    states.append((opened[0][0], tuple(opened[0][1])))
    return renumbered(states, len(states) - 1)


def length_sets(states):
    """Return for each state the set of the lengths of its texts, as an integer whose binary digits say which."""
    found = [0] * len(states)
    for at in ascending_order(states)[::-1]:
        accepting, steps = states[at]
        group = int(accepting)
        for _, later in steps:
            group = group | found[later] << 1
        found[at] = group
    return found


def length_within(group, limit):
    """Return the greatest length in a set that is not beyond a limit, or -1."""
    size = min(limit, group.bit_length()) + 1
    return (group & (1 << size) - 1).bit_length() - 1


def states_up_to(states, limit):
    """Return the states of the automaton of those texts of an automaton that have at most so many characters."""
    order = ascending_order(states)
    groups = length_sets(states)
    # For each state the greatest lengths that its texts may have, by the beginnings that lead to it.
    rooms = [{} for _ in states]
    rooms[0][length_within(groups[0], limit)] = True
    rows = []
    numbers = {}
    moves = {}
    for at in order:
        for room in list(rooms[at]):
            moves[(at, room)] = moves_within(states[at][1], groups, room)
            for _, (later, further) in moves[(at, room)]:
                rooms[later][further] = True
    for at in order[::-1]:
        for room in rooms[at]:
            numbers[(at, room)] = len(rows)
            row = [(sign, numbers[place]) for sign, place in moves[(at, room)]]
            rows.append((states[at][0] and room >= 0, row))
    return least_states(rows)


def moves_within(steps, groups, room):
    """Return the moves (character, (next state, greatest length there)) of those steps for which there is room."""
    found = []
    for sign, later in steps:
        further = length_within(groups[later], room - 1) if room > 0 else -1
        if further >= 0:
            found.append((sign, (later, further)))
    return found
