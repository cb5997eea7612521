"""The refusals of the package, one class for each kind."""


class CrossError(ValueError):
    """What a case, an order, a weight or a text is refused with."""


class NoCase(CrossError):
    """Refuses what is no case; part names the first part that is none."""

    def __init__(self, part):
        self.part = part


class NoOrder(CrossError):
    """Refuses what is no order of the things of a case."""


class NoWeight(CrossError):
    """Refuses to tell shares of a case that can't be."""


class NoText(CrossError):
    """Refuses what can't be read; at is the number of the first wrong line, or None."""

    def __init__(self, at):
        self.at = at


class NoShare(ZeroDivisionError):
    """Refuses to divide by nought."""


class NoThing(KeyError):
    """Refuses what is no thing of a case; thing is what was asked."""

    def __init__(self, thing):
        self.thing = thing
