"""Books tell what lines make of what the cells hold, a number for each thing held."""

from weavelines.checks import DEEPEST
from weavelines.errors import TooMany


class TermBook:
    """Numbers the terms that are made.

    Equal terms have equal numbers: so terms of any depth are compared at
    once, and tuples of them are keys that are never nested deep. A cell's
    atom has the cell's number; makings tell of each other term's number the
    function and the numbers of its parts.
    """

    def __init__(self, machine):
        cells = machine[0]
        self.atoms = tuple(range(cells))
        self.terms = list(range(cells))
        self.depths = [1] * cells
        self.makings = [None] * cells
        self.numbers = {}

    def made(self, function, parts):
        """The number of a function's term, parts being the numbers of its parts."""
        key = (function, parts)
        if key not in self.numbers:
            self.numbers[key] = len(self.terms)
            self.terms.append((function, *[self.terms[part] for part in parts]))
            self.depths.append(1 + max([self.depths[part] for part in parts]))
            self.makings.append(key)
        return self.numbers[key]

    def number_of(self, term):
        if not isinstance(term, tuple):
            return term
        return self.made(term[0], tuple([self.number_of(part) for part in term[1:]]))


def numbered(book, wishes):
    """Wishes with the numbers of their terms in the book."""
    return [[(cell, book.number_of(term)) for cell, term in row] for row in wishes]


class DepthBook:
    """Tells each term by nothing but its depth, and lets none be too deep."""

    def __init__(self, machine):
        self.atoms = (1,) * machine[0]

    def made(self, function, parts):
        if max(parts) >= DEEPEST:
            raise TooMany(DEEPEST)
        return 1 + max(parts)


def held_after(book, line, held):
    """What the cells hold behind a line, if they held this ahead of it."""
    cell, function, sources = line
    if function is None:
        new = held[sources[0]]
    else:
        new = book.made(function, tuple([held[source] for source in sources]))
    return held[:cell] + (new,) + held[cell + 1:]


def held_behind(book, hands, weaving):
    """What the cells hold behind a weaving."""
    held = book.atoms
    done = [0] * len(hands)
    for hand in weaving:
        held = held_after(book, hands[hand][done[hand]], held)
        done[hand] += 1
    return held
