"""What the dealings to be looked at may tell of each cell."""

from weavelines.checks import COMMON
from weavelines.errors import TooMany
from weavelines.terms import text_of

MOST_DEALINGS = 3000


def check_dealings(table):
    many = 1
    for places in all_places(table):
        many = many * len(places)
    if many > MOST_DEALINGS:
        raise TooMany(MOST_DEALINGS)


def all_places(table):
    """For each cell, in sequence, all that a dealing to be looked at may tell of it."""
    hands = list(range(len(table.wished)))
    shared = [(COMMON, number) for number in shared_parts(table)]
    found = []
    for cell in range(table.cells):
        wished = wished_in(table, cell)
        atoms = [atom for atom in range(table.cells) if wished.count(atom) > 1 and atom != cell]
        found.append(hands + [(COMMON, cell)] + [(COMMON, atom) for atom in atoms] + shared)
    return found


def shared_parts(table):
    """The parts, no atoms, of two hands' wishes or more, ascending by their texts."""
    found = []
    for number in range(table.cells, len(table.book.terms)):
        if len([parts for parts in table.parts if number in parts]) > 1:
            found.append((text_of(table.book.terms[number]), number))
    return [number for _, number in sorted(found)]


def wished_in(table, cell):
    """The numbers of the terms that hands wish in a cell."""
    return [number for row in table.wished for wished, number in row if wished == cell]


def useful_places(table):
    """The places of all_places without those that serve no hand, or serve no better than another one.

    A hand whose wishes have a cell's atom among their parts must find it
    there: so either the cell is its own, or common for its own atom.
    """
    return [[place for place in places if is_useful(table, cell, place)]
            for cell, places in enumerate(all_places(table))]


def is_useful(table, cell, place):
    users = [hand for hand, parts in enumerate(table.parts) if cell in parts]
    if not isinstance(place, tuple):
        wishers = [hand for hand, row in enumerate(table.wished) if cell in [wished for wished, _ in row]]
        return all([hand == place for hand in users + wishers])
    if not all([number == place[1] for number in wished_in(table, cell)]):
        return False
    # With one user alone the cell may as well be that one's own, with none anybody's.
    return len(users) > 1 if place[1] == cell else len(users) == 0


def own_atoms_alone(places):
    """Places without cells that are common for other terms than their own atoms."""
    return [[place for place in row if not isinstance(place, tuple) or place[1] == cell]
            for cell, row in enumerate(places)]
