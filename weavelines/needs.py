"""Which lines the wishes need, and the dealing to which these keep."""

from weavelines.books import TermBook, held_after, held_behind
from weavelines.checks import COMMON
from weavelines.errors import BadHands
from weavelines.judges import check_judged
from weavelines.musts import are_kept
from weavelines.walks import check_limits


def needed(machine, hands, wishes):
    """For each hand the ascending places of its needed lines."""
    check_kept(machine, hands, wishes)
    return tuple([tuple(needed_places(row, wished)) for row, wished in zip(hands, wishes)])


def needed_rows(machine, hands, wishes):
    """The rows of needed lines alone, without those that only set own atoms."""
    check_kept(machine, hands, wishes)
    return tuple([needed_row(machine, row, wished) for row, wished in zip(hands, wishes)])


def dealing_told(machine, hands, wishes):
    """The dealing to which needed_rows keeps."""
    rows = needed_rows(machine, hands, wishes)
    return tuple([place_told(machine, rows, cell) for cell in range(machine[0])])


def check_kept(machine, hands, wishes):
    check_judged(machine, hands, wishes)
    # This comes ahead of TooMany, so it is judged without going through all weavings.
    if not are_kept(machine, hands, wishes):
        raise BadHands(None, None)
    check_limits(machine, hands)


def needed_places(row, wished):
    """The ascending places of the lines of a row that its wishes need."""
    awaited = {cell: True for cell, _ in wished}
    places = []
    for place in reversed(range(len(row))):
        cell, _, sources = row[place]
        if cell in awaited:
            del awaited[cell]
            for source in sources:
                awaited[source] = True
            places.append(place)
    return places[::-1]


def needed_row(machine, row, wished):
    """A row's needed lines without idle ones and what isn't needed without them."""
    lines = [row[place] for place in needed_places(row, wished)]
    idle = idle_cells(machine, lines)
    while idle:
        left = [line for line in lines if line[0] not in idle]
        lines = [left[place] for place in needed_places(left, wished)]
        idle = idle_cells(machine, lines)
    return tuple(lines)


def idle_cells(machine, row):
    """The cells that a row, done by itself, sets to their own atoms alone."""
    book = TermBook(machine)
    held = book.atoms
    idle = {}
    for line in row:
        held = held_after(book, line, held)
        cell = line[0]
        idle[cell] = idle.get(cell, True) and held[cell] == book.atoms[cell]
    return [cell for cell in idle if idle[cell]]


def place_told(machine, rows, cell):
    """Whose a cell is if needed rows set it so."""
    setters = [hand for hand, row in enumerate(rows) if cell in [line[0] for line in row]]
    if len(setters) == 0:
        return (COMMON, cell)
    if len(setters) == 1:
        return setters[0]
    # They all set it to one term alone, so the first one's last will do.
    return (COMMON, term_set(machine, rows[setters[0]], cell))


def term_set(machine, row, cell):
    """The term that a cell holds behind a row, done by itself."""
    book = TermBook(machine)
    held = held_behind(book, (row,), (0,) * len(row))
    return book.terms[held[cell]]
