"""Rules: which deed the sender of a feed chooses for a signal."""

# The moves in the order in which a rule looks for them, each with its deed.
TRUSTING = (("stays", "change"), ("leaves", "take"), ("enters", "put"), ("away", None))
DOUBTING = (("enters", "put"), ("stays", "change"), ("leaves", "take"), ("away", None))


def trusting(moves, whole):
    """The deed of a sender that trusts the copy to have the row, if this is possible."""
    return _first_deed(TRUSTING, moves)


def doubting(moves, whole):
    """The deed of a sender that doubts that the copy has the row, if this is possible."""
    return _first_deed(DOUBTING, moves)


def _first_deed(order, moves):
    """The deed for the first move of an order that is reckoned with."""
    for move, deed in order:
        if move in moves:
            return deed
    return None


class Rule:
    """A rule with own deeds for some signals, otherwise like trusting."""

    def __init__(self, deeds):
        self._deeds = {signal: deeds[signal] for signal in deeds}

    def __call__(self, moves, whole):
        signal = (moves, whole)
        # A deed can be None, so the answer does not tell whether there is one.
        if signal in self._deeds:
            return self._deeds[signal]
        return trusting(moves, whole)

    def deeds(self):
        """A dict from signals to the own deeds for them."""
        return {signal: self._deeds[signal] for signal in self._deeds}
