"""Choosing among the dealings of some places, and the rows that go with them."""


def all_choices(places):
    """All dealings of such places, the first cells changing slowest."""
    found = [()]
    for row in places:
        found = [chosen + (place,) for chosen in found for place in row]
    return found


def is_dealt(table, places, dealing=()):
    """Whether a dealing of the first cells can be gone on with so that all hands can."""
    left = table.cells - len(dealing)
    for hand in range(len(table.wished)):
        # No dealing of the cells that are left gives a hand more than all of them.
        if table.row(hand, dealing + (hand,) * left) is None:
            return False
    if left == 0:
        return True
    for place in places[len(dealing)]:
        if is_dealt(table, places, dealing + (place,)):
            return True
    return False


def best_rows(table, places):
    """All hands' rows of as few lines in all as any dealing lets them have, None without any.

    Among these the longest row is as short as any.
    """
    best = None
    for dealing in all_choices(places):
        rows = table.rows(dealing)
        if None not in rows and (best is None or sizes(rows) < sizes(best)):
            best = rows
    return best


def sizes(rows):
    return (count_lines(rows), longest(rows))


def count_lines(rows):
    return sum([len(row) for row in rows])


def longest(rows):
    return max([len(row) for row in rows])
