"""How much of a word has just been read at the end of a text, character by character."""

from soonknown.machines import NOWHERE


def shorter_sizes(word):
    """Return for each size of a beginning of a word that of the longest shorter one with which it ends."""
    found = [NOWHERE]
    for at in range(len(word)):
        size = found[at]
        while size != NOWHERE and word[size] != word[at]:
            size = found[size]
        found.append(size + 1)
    return found


def next_size(word, shorter, size, sign):
    """Return the size of the longest beginning of a word that has just been read if another character is read."""
    if size == len(word):
        size = shorter[size]
    while size != NOWHERE and word[size] != sign:
        size = shorter[size]
    return size + 1


def is_live(net, sets, shorter, place):
    """Return whether a word may be the end of a text, from a state and the size of what has been read of it.

    The sets are those of the states from which the ends of the word, by their sizes, lead to the end of a text.
    """
    state, size = place
    if net.leads_into(state, sets[-1]):
        return True
    while size > 0:
        if sets[len(sets) - 1 - size] >> state & 1 == 1:
            return True
        size = shorter[size]
    return False
