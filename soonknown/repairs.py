"""Repairs: the least changes that lead from a text into a language."""

from soonknown.changeerrors import NoTexts
from soonknown.changes import Script, least_script
from soonknown.cheapest import Nearest, Tally
from soonknown.distances import text_distances
from soonknown.flows import backward_flow, end_costs, forward_flow, start_costs
from soonknown.languages import Language
from soonknown.values import is_whole


def states_of(language, text):
    """Return the automaton of a language into which a text is led; there is no way into one without texts."""
    if not language:
        raise NoTexts(text)
    return language.states()


def repair_cost(language, text, *, put=1, drop=1, swap=1):
    """Return the distance of a text to a language."""
    states = states_of(language, text)
    row = forward_flow(states, put, drop, swap).rows(start_costs(states), text)[-1]
    return min([cost for cost, state in zip(row, states) if state[0]])


def nearest_text(language, text, *, put=1, drop=1, swap=1):
    """Return the first one of the shortest texts to which cheapest repairs lead."""
    return Nearest(states_of(language, text), text, put, drop, swap).text()


def repair(language, text, *, put=1, drop=1, swap=1):
    """Return a cheapest repair that leads to the nearest text."""
    nearest = nearest_text(language, text, put=put, drop=drop, swap=swap)
    return least_script(text, nearest, put=put, drop=drop, swap=swap)


def is_cheapest(language, text, value, *, put=1, drop=1, swap=1):
    """Return whether any value is a cheapest repair of a text."""
    cost = repair_cost(language, text, put=put, drop=drop, swap=swap)
    if not isinstance(value, Script) or value.given != text or value.made not in language:
        return False
    return value.cost(put=put, drop=drop, swap=swap) == cost


def near(language, text, most, *, put=1, drop=1, swap=1):
    """Return the language of the texts of a language to which scripts from a text lead that cost at most so much."""
    # A script turned around leads from the text of the language to the given one, with puts for drops.
    pairs = text_distances(language.states(), Language.listed([text]).states(), drop, put, swap)
    return Language.listed([found for found, cost in pairs if cost <= most])


def repair_count(language, text, *, put=1, drop=1, swap=1):
    """Return the number of cheapest repairs."""
    return Tally(states_of(language, text), text, put, drop, swap).total()


def kept_signs(language, text, *, put=1, drop=1, swap=1):
    """Return for each character of a text whether cheapest repairs keep it always, sometimes or never."""
    return Tally(states_of(language, text), text, put, drop, swap).kept_signs()


def floors(language, text, *, put=1, drop=1, swap=1):
    """Return the greatest floors: the least costs from the start to each place, and from there to an end."""
    states = states_of(language, text)
    ahead = forward_flow(states, put, drop, swap).rows(start_costs(states), text)
    behind = backward_flow(states, put, drop, swap).rows(end_costs(states), text[::-1])
    return ahead, behind[::-1]


def is_floors(language, text, value, *, put=1, drop=1, swap=1):
    """Return whether any value is floors for a text and a language."""
    states = states_of(language, text)
    if not isinstance(value, tuple) or len(value) != 2:
        return False
    for table in value:
        if not is_table(table, len(text) + 1, len(states)):
            return False
    ahead, behind = value
    onward = forward_flow(states, put, drop, swap)
    back = backward_flow(states, put, drop, swap)
    if not is_below(ahead[0], start_costs(states)) or not is_below(behind[-1], end_costs(states)):
        return False
    return are_floors(onward, ahead, text) and are_floors(back, behind[::-1], text[::-1])


def is_table(thing, height, width):
    """Return whether any value is a list of so many lists of so many integers."""
    if not isinstance(thing, list) or len(thing) != height:
        return False
    for row in thing:
        if not isinstance(row, list) or len(row) != width or [cell for cell in row if not is_whole(cell)] != []:
            return False
    return True


def are_floors(flow, rows, text):
    """Return whether no cell of rows is more than a move of a flow lets it be."""
    for row in rows:
        if not is_below(row, flow.with_puts(row)):
            return False
    for at, sign in enumerate(text):
        if not is_below(rows[at + 1], flow.crossed(rows[at], sign)):
            return False
    return True


def is_below(row, other):
    """Return whether no cell of a row is greater than that of another row."""
    for cell, most in zip(row, other):
        if cell > most:
            return False
    return True


def farthest(first, second, *, put=1, drop=1, swap=1):
    """Return the distance of a language to another one, and the first one of the shortest texts that have it."""
    if not first or not second:
        raise NoTexts(None)
    pairs = text_distances(first.states(), second.states(), put, drop, swap)
    distance = max([cost for _, cost in pairs])
    _, text = min([(len(text), text) for text, cost in pairs if cost == distance])
    return distance, text
