"""Hands at work, a line at a time."""

from weavelines.books import TermBook, held_after
from weavelines.checks import DEEPEST, check_hands, check_machine, is_number
from weavelines.errors import BadStep, TooMany
from weavelines.weavings import terms_held


class Weaver:
    """Hands at work: it does their lines in any weaving, and takes them back."""

    def __init__(self, machine, hands):
        check_machine(machine)
        check_hands(machine, hands)
        self._hands = hands
        self._book = TermBook(machine)
        self._weaving = ()
        # What the cells held at first and behind each line done, as numbers of the book.
        self._past = [self._book.atoms]

    def do(self, hand):
        """Lets a hand do its next line; returns what the cells hold then."""
        if not is_number(hand, len(self._hands)):
            raise BadStep()
        done = self._weaving.count(hand)
        if done == len(self._hands[hand]):
            raise BadStep()
        line = self._hands[hand][done]
        held = held_after(self._book, line, self._past[-1])
        # Raised ahead of any change: so the line is not done.
        if self._book.depths[held[line[0]]] > DEEPEST:
            raise TooMany(DEEPEST)
        self._past.append(held)
        self._weaving = self._weaving + (hand,)
        return self.holds

    def undo(self):
        """Takes the last line back; returns what the cells hold then."""
        if len(self._weaving) == 0:
            raise BadStep()
        self._past.pop()
        self._weaving = self._weaving[:-1]
        return self.holds

    @property
    def holds(self):
        """What the cells hold."""
        return terms_held(self._book, self._past[-1])

    @property
    def moments(self):
        """How many lines of each hand are done."""
        return tuple([self._weaving.count(hand) for hand in range(len(self._hands))])

    @property
    def weaving(self):
        """The weaving so far."""
        return self._weaving
