"""Whether wishes are kept also if hands lose lines, and rows for which they are."""

from weavelines.books import TermBook, held_after, numbered
from weavelines.checks import MOST_LINES, check_free_wishes, check_hands, check_machine, check_many, check_wishes
from weavelines.choices import is_dealt, longest
from weavelines.errors import TooMany
from weavelines.judges import due_wishes, is_harmed
from weavelines.places import useful_places
from weavelines.searches import dealt_rows, searched_table
from weavelines.walks import MOST_HELD, check_depth, steps_from
from weavelines.wishtables import WishTable


def is_sturdy(machine, hands, many, wishes):
    """Whether wishes are kept if of each row no more than so many lines one behind another are lost."""
    check_machine(machine)
    check_hands(machine, hands)
    check_many(many)
    check_wishes(machine, hands, wishes)
    check_depth(machine, hands)
    book = TermBook(machine)
    wished = numbered(book, wishes)
    nothing_lost = (0,) * len(hands)
    layer = {nothing_lost: {book.atoms: {nothing_lost: True}}}
    is_kept = True
    while layer:
        # Too many at any moments is an error, so the walk goes on behind a harm.
        check_lossy_width(layer)
        is_kept = is_kept and is_harmless(hands, wished, layer)
        layer = next_lossy_layer(book, hands, many, layer)
    return is_kept


def can_be_sturdy(machine, wishes):
    """Whether some rows, however long, are sturdy."""
    table = searched_table(machine, wishes, True)
    return is_dealt(table, useful_places(table))


def sturdy_rows(machine, many, wishes):
    """Rows that are sturdy if no more than so many lines one behind another are lost."""
    check_machine(machine)
    check_many(many)
    check_free_wishes(machine, wishes)
    rows = dealt_rows(WishTable(machine, wishes, True))
    times = many + 1
    if longest(rows) * times > MOST_LINES:
        raise TooMany(MOST_LINES)
    return tuple([repeated(row, times) for row in rows])


def repeated(row, times):
    """A row with each line so many times, one behind another."""
    return tuple([line for line in row for _ in range(times)])


def check_lossy_width(layer):
    """Raises TooMany if at some moments there are too many ways.

    A lossy layer tells for each moments, for each tuple that the cells can
    hold then, how many lines each hand can have lost last.
    """
    for ways in layer.values():
        if sum([len(losses) for losses in ways.values()]) > MOST_HELD:
            raise TooMany(MOST_HELD)


def is_harmless(hands, wished, layer):
    """Whether all that is due at the moments of a layer is held."""
    for moments, ways in layer.items():
        due = due_wishes(hands, wished, moments)
        if any([is_harmed(held, due) for held in ways]):
            return False
    return True


def next_lossy_layer(book, hands, many, layer):
    """The layer that is one line, done or lost, further; an empty one behind the last."""
    after = {}
    for moments, ways in layer.items():
        for hand, line, later in steps_from(hands, moments):
            later_ways = after.setdefault(later, {})
            for held, losses in ways.items():
                add_losses(later_ways, held_after(book, line, held), [with_lost(lost, hand, 0) for lost in losses])
                more = [with_lost(lost, hand, lost[hand] + 1) for lost in losses if lost[hand] < many]
                if more:
                    add_losses(later_ways, held, more)
    return after


def with_lost(lost, hand, many):
    """How many lines each hand lost last if one hand lost so many."""
    return lost[:hand] + (many,) + lost[hand + 1:]


def add_losses(ways, held, losses):
    found = ways.setdefault(held, {})
    for lost in losses:
        found[lost] = True
