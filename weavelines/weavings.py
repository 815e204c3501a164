"""What the cells hold behind weavings."""

from weavelines.books import TermBook, held_behind
from weavelines.checks import DEEPEST, check_hand, check_hands, check_machine, check_moments, check_weaving
from weavelines.errors import TooMany
from weavelines.terms import text_of
from weavelines.walks import check_depth, check_width, layers


def run_weaving(machine, hands, weaving):
    """The tuple of the terms that the cells hold behind a weaving."""
    check_machine(machine)
    check_hands(machine, hands)
    check_weaving(hands, weaving)
    book = TermBook(machine)
    held = held_behind(book, hands, weaving)
    # The book knows just what this weaving made, also what was overwritten since.
    if max(book.depths) > DEEPEST:
        raise TooMany(DEEPEST)
    return terms_held(book, held)


def standing(machine, hands, moments):
    """All that the cells can hold at moments, ascending by its texts."""
    check_machine(machine)
    check_hands(machine, hands)
    check_moments(hands, moments)
    return all_held(machine, hands, moments)


def outcomes(machine, hands):
    """All that the cells can hold behind whole weavings, ascending by its texts."""
    check_machine(machine)
    check_hands(machine, hands)
    return all_held(machine, hands, tuple([len(row) for row in hands]))


def sure_terms(machine, hands, hand):
    """For 0, 1 .. lines of a hand, what each cell surely holds then, else None."""
    check_machine(machine)
    check_hands(machine, hands)
    check_hand(hands, hand)
    check_depth(machine, hands)
    book = TermBook(machine)
    seen = [[{} for cell in book.atoms] for done in range(len(hands[hand]) + 1)]
    for layer in layers(book, hands):
        check_width(layer)
        for moments, ways in layer.items():
            note_held(seen[moments[hand]], ways)
    return tuple([tuple([only_term(book, numbers) for numbers in row]) for row in seen])


def note_held(seen, ways):
    """Notes in seen, a dict for each cell, what the cell holds in some way."""
    for held in ways:
        for cell, number in enumerate(held):
            seen[cell][number] = True


def only_term(book, numbers):
    """The one term that is numbered, None if there are more."""
    if len(numbers) > 1:
        return None
    return book.terms[list(numbers)[0]]


def terms_held(book, held):
    return tuple([book.terms[number] for number in held])


def all_held(machine, hands, moments):
    """All that the cells can hold at moments, of checked arguments."""
    check_depth(machine, hands)
    book = TermBook(machine)
    found = []
    for layer in layers(book, hands):
        # Too many at any moments is an error, so the walk goes on behind these.
        check_width(layer)
        if moments in layer:
            found = list(layer[moments])
    return by_texts(book, found)


def by_texts(book, found):
    """Tuples of terms' numbers as tuples of terms, ascending by their texts."""
    texts = {}
    for held in found:
        for number in held:
            if number not in texts:
                texts[number] = text_of(book.terms[number])
    told = {tuple([texts[number] for number in held]): held for held in found}
    return tuple([terms_held(book, told[words]) for words in sorted(told)])
