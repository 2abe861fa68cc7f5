"""Scripts: how one text becomes another one, and how two scripts are put together."""

from soonknown.changeerrors import BadScript, WrongText


def is_sign(thing):
    """Return whether any value is a string of one character."""
    return isinstance(thing, str) and len(thing) == 1


def is_step(thing):
    """Return whether any value is a step of a script."""
    # Any value may stand in the tuple: it is not compared before it is known to be a string.
    if not isinstance(thing, tuple) or len(thing) < 2 or not isinstance(thing[0], str):
        return False
    if thing[0] == "swap":
        return len(thing) == 3 and is_sign(thing[1]) and is_sign(thing[2]) and thing[1] != thing[2]
    return thing[0] in ("keep", "put", "drop") and len(thing) == 2 and is_sign(thing[1])


def are_steps(thing):
    """Return whether any value is a list or a tuple of steps."""
    if not isinstance(thing, (list, tuple)):
        return False
    return [step for step in thing if not is_step(step)] == []


def turned(step):
    """Return the step that takes a step back."""
    if step[0] == "put":
        return ("drop", step[1])
    if step[0] == "drop":
        return ("put", step[1])
    return ("swap", step[2], step[1]) if step[0] == "swap" else step


def summed(firsts, seconds):
    """Return the steps that do what two rows of steps do one after the other."""
    found = []
    at = 0
    place = 0
    while at < len(firsts) or place < len(seconds):
        if at < len(firsts) and firsts[at][0] == "drop":
            found.append(firsts[at])
            at = at + 1
        elif place < len(seconds) and seconds[place][0] == "put":
            found.append(seconds[place])
            place = place + 1
        else:
            found.extend(composed(firsts[at], seconds[place]))
            at = at + 1
            place = place + 1
    return found


def composed(first, second):
    """Return a list of the step, if there is one, that a step and another one at the character that it makes are."""
    if first[0] == "keep":
        return [second]
    if second[0] == "keep":
        return [first]
    if first[0] == "put":
        return [] if second[0] == "drop" else [("put", second[2])]
    if second[0] == "drop":
        return [("drop", first[1])]
    return [("keep", first[1])] if first[1] == second[2] else [("swap", first[1], second[2])]


class Script:
    """A script of changes. It never changes itself."""

    def __init__(self, steps):
        if not are_steps(steps):
            raise BadScript(steps)
        self.steps = tuple(steps)
        self.given = "".join([step[1] for step in self.steps if step[0] != "put"])
        self.made = "".join([step[-1] for step in self.steps if step[0] != "drop"])

    @classmethod
    def kept(cls, text):
        """Return the script that keeps all characters of a text."""
        return cls([("keep", sign) for sign in text])

    def __call__(self, text):
        """Return what the script makes of its given text."""
        if not isinstance(text, str) or text != self.given:
            raise WrongText(text)
        return self.made

    def __len__(self):
        return len([step for step in self.steps if step[0] != "keep"])

    def __invert__(self):
        return Script([turned(step) for step in self.steps])

    def __add__(self, other):
        if other.given != self.made:
            raise WrongText(other.given)
        return Script(summed(self.steps, other.steps))

    def __eq__(self, other):
        return isinstance(other, Script) and self.steps == other.steps

    def cost(self, *, put=1, drop=1, swap=1):
        """Return the sum of the prices of the steps."""
        prices = {"keep": 0, "put": put, "drop": drop, "swap": swap}
        return sum([prices[step[0]] for step in self.steps])


def least_script(given, made, *, put=1, drop=1, swap=1):
    """Return a script from one text to another one than which none costs less."""
    costs = costs_behind(given, made, put, drop, swap)
    steps = []
    at = 0
    place = 0
    while at < len(given) or place < len(made):
        cost = costs[at][place]
        if at < len(given) and cost == drop + costs[at + 1][place]:
            steps.append(("drop", given[at]))
            at += 1
        elif place < len(made) and cost == put + costs[at][place + 1]:
            steps.append(("put", made[place]))
            place += 1
        else:
            same = given[at] == made[place]
            steps.append(("keep", given[at]) if same else ("swap", given[at], made[place]))
            at += 1
            place += 1
    return Script(steps)


def costs_behind(given, made, put, drop, swap):
    """Return a list of lists: the least costs from behind so many characters of one text and of another one."""
    many = len(made)
    row = [put * (many - place) for place in range(many + 1)]
    rows = [row]
    for sign in given[::-1]:
        cost = row[many] + drop
        found = [cost]
        for place in range(many - 1, -1, -1):
            beside = row[place + 1] if made[place] == sign else row[place + 1] + swap
            cost = min(cost + put, row[place] + drop, beside)
            found.append(cost)
        row = found[::-1]
        rows.append(row)
    return rows[::-1]
