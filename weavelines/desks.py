"""A desk that answers lines of words about hands at work."""

from weavelines.benches import Weaver
from weavelines.checks import is_number
from weavelines.errors import BadStep, BadTerm, NoDealing
from weavelines.handtexts import line_text, read_hands, read_term
from weavelines.judges import harm, keeps
from weavelines.searches import least_cells, woven_rows
from weavelines.terms import text_of
from weavelines.weavings import outcomes, sure_terms
from weavelines.words import figure, words_of

DASH = "-"
NO_LINE = "no line"


def do_told(desk, hand):
    try:
        held = desk.weaver.do(hand)
    except BadStep:
        return NO_LINE
    return row_told(held)


def undo_told(desk):
    try:
        held = desk.weaver.undo()
    except BadStep:
        return NO_LINE
    return row_told(held)


def holds_told(desk):
    return row_told(desk.weaver.holds)


def moments_told(desk):
    return numbers_told(desk.weaver.moments)


def sure_told(desk, hand):
    return rows_told(sure_terms(desk.machine, desk.hands, hand))


def outcomes_told(desk):
    return rows_told(outcomes(desk.machine, desk.hands))


def wish_told(desk, hand, cell, term):
    desk.wished[hand][cell] = term
    return "done"


def drop_told(desk, hand):
    desk.wished[hand] = {}
    return "done"


def keeps_told(desk):
    return "yes" if keeps(desk.machine, desk.hands, wishes_of(desk)) else "no"


def harm_told(desk):
    weaving = harm(desk.machine, desk.hands, wishes_of(desk))
    if weaving is None:
        return "none"
    return numbers_told(weaving) if weaving else DASH


def weave_told(desk):
    try:
        rows = woven_rows(desk.machine, wishes_of(desk))
    except NoDealing:
        return "no dealing"
    return "; ".join([lines_told(row) for row in rows])


def cells_told(desk):
    return numbers_told(least_cells(desk.machine, wishes_of(desk)))


def wishes_of(desk):
    """The wishes of a desk's hands, ascending by cells."""
    return tuple([tuple([(cell, wished[cell]) for cell in sorted(wished)]) for wished in desk.wished])


def rows_told(rows):
    return "; ".join([row_told(row) for row in rows])


def row_told(row):
    """A row of terms, a dash for None."""
    return " ".join([DASH if term is None else text_of(term) for term in row])


def numbers_told(numbers):
    """A row of numbers, a dash for None."""
    return " ".join([DASH if number is None else str(number) for number in numbers])


def lines_told(row):
    """A hand's row of lines, a dash for none."""
    return ", ".join([line_text(line) for line in row]) if row else DASH


# For each first word the kinds of the words that must stand behind it, and what answers.
KINDS = {
    "do": ("hand",), "undo": (), "holds": (), "moments": (), "sure": ("hand",), "outcomes": (),
    "wish": ("hand", "cell", "term"), "drop": ("hand",), "keeps": (), "harm": (), "weave": (), "cells": (),
}
ANSWERS = {
    "do": do_told, "undo": undo_told, "holds": holds_told, "moments": moments_told, "sure": sure_told,
    "outcomes": outcomes_told, "wish": wish_told, "drop": drop_told, "keeps": keeps_told, "harm": harm_told,
    "weave": weave_told, "cells": cells_told,
}


class Desk:
    """Takes hands, and answers what is asked about them."""

    def __init__(self):
        self.machine = None
        self.hands = None
        self.weaver = None
        self.wished = []

    def take_hands(self, text):
        """Takes the machine and hands of a text, with no line done and no wishes."""
        machine, hands = read_hands(text)
        self.machine = machine
        self.hands = hands
        self.weaver = Weaver(machine, hands)
        self.wished = [{} for _ in hands]

    def say(self, line):
        """Answers a line of words; TooMany goes through."""
        words = words_of(line) if isinstance(line, str) else []
        if not words or words[0] not in KINDS or len(words) != 1 + len(KINDS[words[0]]):
            return "what"
        if self.hands is None:
            return "no hands"
        values = []
        for kind, word in zip(KINDS[words[0]], words[1:]):
            value = read_value(self, kind, word)
            if value is None:
                return f"no {kind}"
            values.append(value)
        answer = ANSWERS[words[0]]
        return answer(self, *values)


def read_value(desk, kind, word):
    """The value of a kind that a word tells to a desk, None if it tells none."""
    if kind == "term":
        try:
            return read_term(desk.machine, word)
        except BadTerm:
            return None
    number = figure(word)
    many = len(desk.hands) if kind == "hand" else desk.machine[0]
    return number if is_number(number, many) else None
