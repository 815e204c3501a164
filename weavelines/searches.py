"""Searching for dealings that let all hands have their wishes, and for their rows."""

from weavelines.checks import COMMON, MOST_CELLS, check_dealing, check_free_wishes, check_machine
from weavelines.choices import all_choices, best_rows, count_lines, is_dealt
from weavelines.errors import NoDealing
from weavelines.places import all_places, check_dealings, own_atoms_alone, useful_places
from weavelines.wishtables import WishTable, check_parts


def can_do(machine, wishes, dealing):
    """For each hand, whether some row of its keeps to a dealing, with its wishes."""
    check_machine(machine)
    check_free_wishes(machine, wishes)
    check_dealing(machine, len(wishes), dealing)
    table = WishTable(machine, wishes)
    check_parts(table)
    return tuple([row is not None for row in table.rows(in_numbers(table, dealing))])


def dealings(machine, wishes):
    """All dealings to be looked at in which all hands can, in their sequence."""
    table = searched_table(machine, wishes)
    right = [dealing for dealing in all_choices(all_places(table)) if None not in table.rows(dealing)]
    return tuple([in_terms(table, dealing) for dealing in right])


def can_be_woven(machine, wishes):
    """Whether some rows, however long, keep the wishes whatever the weaving."""
    table = searched_table(machine, wishes)
    return is_dealt(table, useful_places(table))


def woven_rows(machine, wishes):
    """Hands' rows of as few lines in all as any that keep the wishes."""
    return tuple(dealt_rows(wish_table(machine, wishes)))


def fewest_lines(machine, wishes):
    """How many lines in all the rows have that woven_rows tells, None without any."""
    table = searched_table(machine, wishes)
    rows = best_rows(table, useful_places(table))
    if rows is None:
        return None
    return count_lines(rows)


def least_cells(machine, wishes):
    """The least numbers of cells: with common cells as told, and if for own atoms alone."""
    table = wish_table(machine, wishes)
    check_parts(table)
    least = cells_named(table)
    return (fewest_cells(machine, wishes, least, True), fewest_cells(machine, wishes, least, False))


def wish_table(machine, wishes, sturdy_only=False):
    """The table of wishes that come without hands."""
    check_machine(machine)
    check_free_wishes(machine, wishes)
    return WishTable(machine, wishes, sturdy_only)


def searched_table(machine, wishes, sturdy_only=False):
    table = wish_table(machine, wishes, sturdy_only)
    check_searched(table)
    return table


def dealt_rows(table):
    """The rows that best_rows tells; NoDealing without any."""
    # NoDealing comes ahead of TooMany, so this is found out without a limit.
    if not is_dealt(table, useful_places(table)):
        raise NoDealing()
    check_searched(table)
    return best_rows(table, useful_places(table))


def check_searched(table):
    """Raises TooMany if there is too much to be searched."""
    check_parts(table)
    check_dealings(table)


def in_numbers(table, dealing):
    return tuple([(COMMON, table.book.number_of(place[1])) if isinstance(place, tuple) else place
                  for place in dealing])


def in_terms(table, dealing):
    return tuple([(COMMON, table.book.terms[place[1]]) if isinstance(place, tuple) else place
                  for place in dealing])


def cells_named(table):
    """The least number of cells that a machine has on which these are wishes."""
    named = [0]
    for row, parts in zip(table.wished, table.parts):
        named.extend([cell for cell, _ in row])
        named.extend([number for number in parts if number < table.cells])
    return 1 + max(named)


def fewest_cells(machine, wishes, least, with_terms):
    """The least number of cells, None for none; with_terms tells whether cells may be common for any terms."""
    for cells in range(least, MOST_CELLS + 1):
        table = WishTable((cells, machine[1]), wishes)
        places = useful_places(table)
        if with_terms:
            check_dealings(table)
        else:
            places = own_atoms_alone(places)
        if is_dealt(table, places):
            return cells
    return None
