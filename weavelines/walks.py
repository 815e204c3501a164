"""Walking through all weavings of hands at once, a line at a time.

A layer is what all weavings of one length lead to: for each moments, for
each tuple that the cells can hold then, the least weaving to it, as a string
of the hands' numbers (strings of one length stand in the sequence in which
the weavings do, and take little room).
"""

from weavelines.books import DepthBook, TermBook, held_after
from weavelines.errors import TooMany

MOST_HELD = 3000


def steps_from(hands, moments):
    """All that can be done next: a hand, its line, and the moments behind it."""
    steps = []
    for hand, done in enumerate(moments):
        if done < len(hands[hand]):
            later = moments[:hand] + (done + 1,) + moments[hand + 1:]
            steps.append((hand, hands[hand][done], later))
    return steps


def add_ways(book, hand, line, ways, later_ways):
    """Adds what the ways lead to if the hand then does its line."""
    figure = str(hand)
    for held, way in ways.items():
        new = held_after(book, line, held)
        longer = way + figure
        if new not in later_ways or longer < later_ways[new]:
            later_ways[new] = longer


def next_layer(book, hands, layer):
    """The layer that is one line further; an empty one behind the last."""
    after = {}
    for moments, ways in layer.items():
        for hand, line, later in steps_from(hands, moments):
            after.setdefault(later, {})
            add_ways(book, hand, line, ways, after[later])
    return after


def layers(book, hands):
    """All layers, from the void weaving to the whole ones."""
    layer = {(0,) * len(hands): {book.atoms: ""}}
    while layer:
        yield layer
        layer = next_layer(book, hands, layer)


def check_depth(machine, hands):
    """Raises TooMany if some weaving sets a cell to something too deep."""
    book = DepthBook(machine)
    for _ in layers(book, hands):
        pass


def check_width(layer):
    """Raises TooMany if at some moments the cells can hold too many tuples."""
    for ways in layer.values():
        if len(ways) > MOST_HELD:
            raise TooMany(MOST_HELD)


def check_limits(machine, hands):
    """Raises the TooMany that is raised wherever hands are an argument."""
    check_depth(machine, hands)
    for layer in layers(TermBook(machine), hands):
        check_width(layer)
