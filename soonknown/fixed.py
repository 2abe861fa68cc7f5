"""The texts of those parts of a grammar that have only one."""

from soonknown.values import quoted


class FixedTexts:
    """The texts of parts that have only one: of values, and of the rests of lists and records."""

    def __init__(self, grammar):
        self.grammar = grammar
        self.done = {}

    def text_of(self, number):
        """Return the only text of a part; an empty one if it has several."""
        if number not in self.done:
            self.done[number] = self.worked_out(self.grammar.parts[number], number)
        return self.done[number]

    def worked_out(self, part, number):
        """Return the text of a part that has not been kept yet."""
        form = part[0]
        if form == "integer":
            return str(part[1]) if part[1] == part[2] else ""
        if form == "words":
            return part[1][0] if len(part[1]) == 1 else ""
        if form == "list" or form == "items":
            return self.text_of_items(part, number)
        if form == "record" or form == "members":
            return self.text_of_members(part)
        return ""

    def text_of_items(self, part, number):
        """Return the only text of a list or of the rest of one."""
        if part[3] < part[4]:
            return ""
        texts = [self.text_of(self.grammar.item_at(number, at)) for at in range(part[4])]
        return joined("[" if part[0] == "list" else "", texts, "]")

    def text_of_members(self, part):
        """Return the only text of a record or of the rest of one."""
        texts = []
        for name, number, required in part[1]:
            # A repeat or a sized stands only beside a member with several values.
            text = self.text_of(number) if required else ""
            texts.append(quoted(name) + ":" + text if text != "" else "")
        return joined("{" if part[0] == "record" else "", texts, "}")


def joined(begin, texts, end):
    """Return the text of a container, or of the rest of one if it does not begin; an empty one if a text is empty."""
    if "" in texts:
        return ""
    # What is left of a container comes behind something.
    return (begin if begin != "" or texts == [] else ",") + ",".join(texts) + end
