"""Dealings of the cells, and whether hands keep to them."""

from weavelines.books import TermBook, held_after
from weavelines.checks import MOST_HANDS, check_dealing, check_machine, is_number
from weavelines.errors import BadDealing
from weavelines.judges import check_judged
from weavelines.walks import check_limits


def obeys(machine, hands, wishes, dealing):
    """Whether all hands keep to a dealing."""
    check_judged(machine, hands, wishes)
    check_dealing(machine, len(hands), dealing)
    check_limits(machine, hands)
    return all([keeps_to(machine, row, wishes[hand], dealing, hand) for hand, row in enumerate(hands)])


def own_cells(machine, dealing, hand):
    """The ascending tuple of a hand's own cells."""
    check_machine(machine)
    check_dealing(machine, MOST_HANDS, dealing)
    if not is_number(hand, MOST_HANDS):
        raise BadDealing()
    return tuple([cell for cell, place in enumerate(dealing) if place == hand])


def keeps_to(machine, row, wished, dealing, hand):
    """Whether a hand's row keeps to a dealing, with its wishes."""
    book = TermBook(machine)
    held = book.atoms
    was_set = {}
    for line in row:
        cell, _, sources = line
        if not all([may_read(dealing, hand, source, was_set) for source in sources]):
            return False
        held = held_after(book, line, held)
        if not may_set(dealing, hand, cell, book.terms[held[cell]]):
            return False
        was_set[cell] = True
    if not all([may_read(dealing, hand, cell, was_set) for cell, _ in wished]):
        return False
    return all([book.terms[held[cell]] == term for cell, term in wished])


def may_read(dealing, hand, cell, was_set):
    """Whether a hand may read a cell behind lines of its own that set those cells."""
    place = dealing[cell]
    if not isinstance(place, tuple):
        return place == hand
    return place[1] == cell or cell in was_set


def may_set(dealing, hand, cell, term):
    """Whether a hand may set a cell to a term."""
    place = dealing[cell]
    if not isinstance(place, tuple):
        return place == hand
    return place[1] == term and term != cell
