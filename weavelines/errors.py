"""The errors that the package raises."""


class WeaveError(ValueError):
    """Any error of this package."""


class BadMachine(WeaveError):
    """A value is no machine; part is machine, cells or functions."""

    def __init__(self, part):
        super().__init__(f"no machine: {part} is wrong")
        self.part = part


class BadHands(WeaveError):
    """A value is no hands; hand and index tell where, None for the whole."""

    def __init__(self, hand, index):
        super().__init__(f"no hands: hand {hand}, line {index}")
        self.hand = hand
        self.index = index


class BadWishes(WeaveError):
    """A value is no wishes; hand and index tell where, None for the whole."""

    def __init__(self, hand, index):
        super().__init__(f"no wishes: hand {hand}, wish {index}")
        self.hand = hand
        self.index = index


class BadLine(WeaveError):
    """A word of a text cannot stand where it stands; line and place count from 1."""

    def __init__(self, line, place):
        super().__init__(f"no such word can stand in line {line}, word {place}")
        self.line = line
        self.place = place


class TooMany(WeaveError):
    """Something is more, or deeper, than most."""

    def __init__(self, most):
        super().__init__(f"more than {most}")
        self.most = most


class BadTerm(WeaveError):
    """A value is no term of the machine."""


class BadWeaving(WeaveError):
    """A value is no weaving of the hands, or no hand's number."""


class BadMoments(WeaveError):
    """A value is no moments of the hands."""


class BadDealing(WeaveError):
    """A value is no dealing of the machine's cells."""


class BadNumber(WeaveError):
    """A value is no number, or no lengths, as they must be."""


class NoDealing(WeaveError):
    """No dealing lets all hands have their wishes."""


class BadStep(WeaveError):
    """A step cannot be done, or none can be taken back."""


class BadString(WeaveError):
    """A value is no string."""
