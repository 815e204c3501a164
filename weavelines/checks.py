"""What machines, terms, hands, weavings, moments, wishes, dealings, numbers and strings must be."""

from weavelines.errors import BadDealing, BadHands, BadMachine, BadMoments, BadNumber, BadString, BadWeaving, BadWishes

MOST_CELLS = 4
MOST_FUNCTIONS = 3
MOST_READ = 2
MOST_HANDS = 3
MOST_LINES = 12
MOST_LOST = 3
DEEPEST = 8
COMMON = "common"


def is_between(value, low, high):
    """Whether a value is an integer from low to high; True and False are none."""
    return isinstance(value, int) and not isinstance(value, bool) and low <= value <= high


def is_number(value, many):
    """Whether a value is the number of one of many things, counted from 0."""
    return is_between(value, 0, many - 1)


def is_tuple(value, least, most):
    """Whether a value is a tuple of at least so many and at most so many values."""
    return isinstance(value, tuple) and least <= len(value) <= most


def check_machine(machine):
    if not is_tuple(machine, 2, 2):
        raise BadMachine("machine")
    cells, functions = machine
    if not is_between(cells, 1, MOST_CELLS):
        raise BadMachine("cells")
    if not is_tuple(functions, 1, MOST_FUNCTIONS):
        raise BadMachine("functions")
    if not all([is_between(reads, 1, MOST_READ) for reads in functions]):
        raise BadMachine("functions")


def is_term(machine, value, deepest=DEEPEST):
    """Whether a value is a term of the machine and at most so deep."""
    cells, functions = machine
    if deepest < 1:
        return False
    if not isinstance(value, tuple):
        return is_number(value, cells)
    if len(value) == 0 or not is_number(value[0], len(functions)):
        return False
    if len(value) != 1 + functions[value[0]]:
        return False
    return all([is_term(machine, part, deepest - 1) for part in value[1:]])


def is_line(machine, value):
    cells, functions = machine
    if not is_tuple(value, 3, 3):
        return False
    cell, function, sources = value
    if not is_number(cell, cells) or not is_tuple(sources, 1, MOST_READ):
        return False
    if not all([is_number(source, cells) for source in sources]):
        return False
    if function is None:
        return len(sources) == 1 and sources[0] != cell
    return is_number(function, len(functions)) and len(sources) == functions[function]


def check_hands(machine, hands):
    if not is_tuple(hands, 1, MOST_HANDS):
        raise BadHands(None, None)
    for hand, row in enumerate(hands):
        if not is_tuple(row, 0, MOST_LINES):
            raise BadHands(hand, None)
        for index, line in enumerate(row):
            if not is_line(machine, line):
                raise BadHands(hand, index)


def check_hand(hands, hand):
    if not is_number(hand, len(hands)):
        raise BadWeaving()


def is_weaving(hands, value):
    if not isinstance(value, tuple):
        return False
    # Only behind this may hands be counted: True would count as 1.
    if not all([is_number(hand, len(hands)) for hand in value]):
        return False
    return all([value.count(hand) <= len(row) for hand, row in enumerate(hands)])


def check_weaving(hands, weaving):
    if not is_weaving(hands, weaving):
        raise BadWeaving()


def check_moments(hands, moments):
    if not is_tuple(moments, len(hands), len(hands)):
        raise BadMoments()
    if not all([is_between(done, 0, len(row)) for done, row in zip(moments, hands)]):
        raise BadMoments()


def is_wish(machine, value):
    return is_tuple(value, 2, 2) and is_number(value[0], machine[0]) and is_term(machine, value[1])


def check_wishes(machine, hands, wishes):
    if not is_tuple(wishes, len(hands), len(hands)):
        raise BadWishes(None, None)
    check_wish_rows(machine, wishes)


def check_free_wishes(machine, wishes):
    """Checks wishes that come without hands."""
    if not is_tuple(wishes, 1, MOST_HANDS):
        raise BadWishes(None, None)
    check_wish_rows(machine, wishes)


def check_wish_rows(machine, wishes):
    for hand, row in enumerate(wishes):
        if not isinstance(row, tuple):
            raise BadWishes(hand, None)
        for index, wish in enumerate(row):
            if not is_wish(machine, wish):
                raise BadWishes(hand, index)
            if index > 0 and wish[0] <= row[index - 1][0]:
                raise BadWishes(hand, index)


def is_place(machine, many, value):
    """Whether a value tells whose a cell is: one of many hands', or all hands'."""
    if not isinstance(value, tuple):
        return is_number(value, many)
    return len(value) == 2 and value[0] == COMMON and is_term(machine, value[1])


def check_dealing(machine, many, dealing):
    """Checks a dealing of the machine's cells to so many hands."""
    if not is_tuple(dealing, machine[0], machine[0]):
        raise BadDealing()
    if not all([is_place(machine, many, place) for place in dealing]):
        raise BadDealing()


def check_lengths(lengths):
    if not is_tuple(lengths, 1, MOST_HANDS):
        raise BadNumber()
    if not all([is_between(length, 0, MOST_LINES) for length in lengths]):
        raise BadNumber()


def check_many(many):
    """Checks how many lines, one behind another, may be lost of a row."""
    if not is_between(many, 1, MOST_LOST):
        raise BadNumber()


def check_string(text):
    if not isinstance(text, str):
        raise BadString()
