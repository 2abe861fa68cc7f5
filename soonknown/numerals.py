"""Integers in decimal digits, as commands have them and as answers show them."""

from soonknown.values import DIGITS

MOST_DIGITS = 60
# Python itself does not write integers of many thousands of digits.
UNIT_DIGITS = 64
UNIT = 10 ** 64


def whole_number(word):
    """Return the integer that a word is in at most 60 decimal digits without leading zeros, or None."""
    if word == "" or len(word) > MOST_DIGITS or (word[0] == "0" and word != "0"):
        return None
    for sign in word:
        if sign not in DIGITS:
            return None
    return int(word)


def decimal(number):
    """Return the decimal digits of an integer from 0 on, however great it is."""
    units = [UNIT]
    while units[-1] <= number:
        units.append(units[-1] * units[-1])
    # By halves: each part is cut into two of half as many digits, until all of them are less than the first unit.
    parts = [number]
    for unit in units[::-1]:
        shorter = []
        for part in parts:
            shorter.extend(divmod(part, unit))
        parts = shorter
    digits = "".join([str(part).zfill(UNIT_DIGITS) for part in parts])
    return digits.lstrip("0") if number > 0 else "0"
