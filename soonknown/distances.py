"""The distances of all texts of an automaton, of which there are not very many, to another automaton."""

from soonknown.flows import backward_flow, end_costs, forward_flow, start_costs
from soonknown.machines import ascending_order, counts_of


def text_distances(states, others, put, drop, swap):
    """Return the list of (text, least cost of a script from it to a text of another automaton) of an automaton.

    Beginnings are followed forward while many texts go on from them, and ends, which several beginnings may have,
    backward: a cost is the least sum of both. There may be no texts; but the other automaton has one.
    """
    counts = counts_of(states)
    few = 1
    while few * few < counts[0]:
        few += 1
    ends = costs_of_ends(states, others, backward_flow(others, put, drop, swap), few)
    flow = forward_flow(others, put, drop, swap)
    found = []
    waiting = [("", 0, flow.with_puts(start_costs(others)))]
    while waiting:
        begun, at, row = waiting.pop()
        if counts[at] <= few:
            found.extend([(begun + text, least_sum(row, costs)) for text, costs in ends[at]])
        else:
            accepting, steps = states[at]
            if accepting:
                found.append((begun, least_sum(row, end_costs(others))))
            for sign, later in steps:
                waiting.append((begun + sign, later, flow.next_row(row, sign)))
    return found


def costs_of_ends(states, others, flow, few):
    """Return a dict from the states from which few texts go on to lists of (text, costs from there to its end)."""
    counts = counts_of(states)
    empty = flow.with_puts(end_costs(others))
    found = {}
    for at in ascending_order(states)[::-1]:
        if counts[at] <= few:
            accepting, steps = states[at]
            rows = [("", empty)] if accepting else []
            for sign, later in steps:
                rows.extend([(sign + text, flow.next_row(costs, sign)) for text, costs in found[later]])
            found[at] = rows
    return found


def least_sum(row, other):
    """Return the least sum of the costs of two rows for the same state."""
    return min([cost + more for cost, more in zip(row, other)])
