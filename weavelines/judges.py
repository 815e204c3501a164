"""Whether hands' wishes are kept, whatever the weaving."""

from weavelines.books import TermBook, held_behind, numbered
from weavelines.checks import check_hands, check_machine, check_wishes, is_weaving
from weavelines.walks import check_depth, check_width, layers


def keeps(machine, hands, wishes):
    """Whether the wishes are kept in all weavings, whole or not."""
    check_judged(machine, hands, wishes)
    return find_harm(machine, hands, wishes) is None


def harm(machine, hands, wishes):
    """The least of the shortest weavings behind which some wish isn't kept, or None."""
    check_judged(machine, hands, wishes)
    return find_harm(machine, hands, wishes)


def shows_harm(machine, hands, wishes, value):
    """Whether a value is a weaving behind which some wish isn't kept."""
    check_judged(machine, hands, wishes)
    if not is_weaving(hands, value):
        return False
    book = TermBook(machine)
    wished = numbered(book, wishes)
    moments = tuple([value.count(hand) for hand in range(len(hands))])
    return is_harmed(held_behind(book, hands, value), due_wishes(hands, wished, moments))


def check_judged(machine, hands, wishes):
    check_machine(machine)
    check_hands(machine, hands)
    check_wishes(machine, hands, wishes)


def due_wishes(hands, wished, moments):
    """The wishes of the hands that have done all their lines at moments."""
    due = []
    for hand, row in enumerate(hands):
        if moments[hand] == len(row):
            due.extend(wished[hand])
    return due


def is_harmed(held, due):
    """Whether the cells don't hold what is due."""
    return any([held[cell] != number for cell, number in due])


def least_harm(hands, wished, layer):
    """The least harmful weaving of a layer as a string, None without one."""
    harmful = []
    for moments, ways in layer.items():
        due = due_wishes(hands, wished, moments)
        harmful.extend([way for held, way in ways.items() if is_harmed(held, due)])
    return min(harmful, default=None)


def find_harm(machine, hands, wishes):
    """What harm returns, of checked arguments."""
    check_depth(machine, hands)
    book = TermBook(machine)
    wished = numbered(book, wishes)
    least = None
    for layer in layers(book, hands):
        # Too many at any moments is an error, so the walk goes on behind the harm.
        check_width(layer)
        if least is None:
            least = least_harm(hands, wished, layer)
    if least is None:
        return None
    return tuple([int(figure) for figure in least])
