"""Wishes laid out for searching: their parts, and the rows that were found for them.

Within a search a dealing has the numbers of terms in a book in place of the
terms themselves.
"""

from weavelines.books import TermBook, numbered
from weavelines.errors import TooMany
from weavelines.rowsearch import CLOSED, OWN, PLAIN, fewest_row

MOST_PARTS = 12


class WishTable:
    """Wishes, the parts of each hand's, and the rows, sturdy ones or any, that were found for them."""

    def __init__(self, machine, wishes, sturdy_only=False):
        self.cells = machine[0]
        self.sturdy_only = sturdy_only
        self.book = TermBook(machine)
        self.wished = numbered(self.book, wishes)
        self.parts = [parts_of(self.book, row) for row in self.wished]
        self.found = {}

    def view(self, hand, dealing):
        """What a hand sees of a dealing, as rowsearch tells it."""
        view = []
        for cell, place in enumerate(dealing):
            if place == hand:
                view.append(OWN if cell in self.parts[hand] else PLAIN)
            elif isinstance(place, tuple) and place[1] in self.parts[hand]:
                view.append(place[1])
            else:
                # What is common for no part of its wishes is of no use to a hand.
                view.append(CLOSED)
        return tuple(view)

    def row(self, hand, dealing):
        """A row of as few lines as any with which a hand keeps to a dealing, None without one."""
        view = self.view(hand, dealing)
        if (hand, view) not in self.found:
            self.found[(hand, view)] = fewest_row(self.book, view, self.wished[hand], self.sturdy_only)
        return self.found[(hand, view)]

    def rows(self, dealing):
        """All hands' rows, None for those that cannot."""
        return [self.row(hand, dealing) for hand in range(len(self.wished))]


def parts_of(book, row):
    """The numbers of all parts of a hand's wishes, as the keys of a dict."""
    parts = {}
    left = [number for _, number in row]
    while left:
        number = left.pop()
        if number not in parts:
            parts[number] = True
            if book.makings[number] is not None:
                left.extend(book.makings[number][1])
    return parts


def check_parts(table):
    if max([len(parts) for parts in table.parts]) > MOST_PARTS:
        raise TooMany(MOST_PARTS)
