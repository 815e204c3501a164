"""Whether wishes are kept, judged backward from the moments at which they are due.

What a cell must surely hold behind a line tells what the cells must surely
hold ahead of it, since unlike parts make unlike terms. So each cell has one
such term at most at any moments, and hands of any depth and width are judged
quickly, also those of which all weavings together would be too many.
"""

from weavelines.books import TermBook, numbered
from weavelines.judges import due_wishes


def are_kept(machine, hands, wishes):
    """Whether wishes are kept in all weavings, of hands of any depth and width."""
    book = TermBook(machine)
    wished = numbered(book, wishes)
    musts = {moments: {} for moments in all_moments(hands)}
    for moments in reversed(list(musts)):
        if not add_musts(musts[moments], due_wishes(hands, wished, moments)):
            return False
        if not pass_back(book, hands, musts, moments):
            return False
    first = musts[(0,) * len(hands)]
    return all([number == book.atoms[cell] for cell, number in first.items()])


def all_moments(hands):
    """All moments, each behind those from which a line leads to it."""
    found = [()]
    for row in hands:
        found = [moments + (done,) for moments in found for done in range(len(row) + 1)]
    return found


def pass_back(book, hands, musts, moments):
    """Passes what must be held at moments to those one line earlier; returns whether it can be."""
    for hand, done in enumerate(moments):
        if done > 0:
            earlier = moments[:hand] + (done - 1,) + moments[hand + 1:]
            line = hands[hand][done - 1]
            for cell, number in list(musts[moments].items()):
                needs = needs_ahead(book, line, cell, number)
                if needs is None or not add_musts(musts[earlier], needs):
                    return False
    return True


def needs_ahead(book, line, cell, number):
    """What cells must hold ahead of a line if one must hold a term behind it, None if it never does."""
    target, function, sources = line
    if target != cell:
        return [(cell, number)]
    if function is None:
        return [(sources[0], number)]
    making = book.makings[number]
    if making is None or making[0] != function:
        return None
    return list(zip(sources, making[1]))


def add_musts(musts, pairs):
    """Adds pairs of a cell and a number to musts; returns whether they go together."""
    for cell, number in pairs:
        if musts.setdefault(cell, number) != number:
            return False
    return True
