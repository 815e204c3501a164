"""How many weavings there are, and how many of them keep all wishes throughout."""

from math import comb, gcd

from weavelines.books import TermBook, held_after, numbered
from weavelines.checks import check_lengths
from weavelines.judges import check_judged, due_wishes, is_harmed
from weavelines.walks import check_limits, steps_from


def count_weavings(lengths):
    """How many whole weavings rows of such lengths have."""
    check_lengths(lengths)
    return count_all(lengths)


def right_weavings(machine, hands, wishes):
    """How many whole weavings keep all wishes from the beginning to the end."""
    check_judged(machine, hands, wishes)
    check_limits(machine, hands)
    return count_right(machine, hands, wishes)


def right_share(machine, hands, wishes):
    """The share of the right ones among all whole weavings, (top, low) in lowest terms."""
    right = right_weavings(machine, hands, wishes)
    whole = count_all([len(row) for row in hands])
    shared = gcd(right, whole)
    return (right // shared, whole // shared)


def count_all(lengths):
    total = 0
    count = 1
    for length in lengths:
        total += length
        count = count * comb(total, length)
    return count


def count_right(machine, hands, wishes):
    """What right_weavings returns, of checked arguments."""
    book = TermBook(machine)
    wished = numbered(book, wishes)
    layer = {(0,) * len(hands): {book.atoms: 1}}
    for _ in range(sum([len(row) for row in hands])):
        layer = counted_further(book, hands, right_of(hands, wished, layer))
    return sum([sum(counts.values()) for counts in right_of(hands, wished, layer).values()])


def right_of(hands, wished, layer):
    """What is left of a layer if what harms a wish is left out.

    A layer tells for each moments, for each tuple that the cells can hold
    then, how many weavings lead to it.
    """
    right = {}
    for moments, counts in layer.items():
        due = due_wishes(hands, wished, moments)
        right[moments] = {held: count for held, count in counts.items() if not is_harmed(held, due)}
    return right


def counted_further(book, hands, layer):
    """The layer that is one line further."""
    after = {}
    for moments, counts in layer.items():
        for _, line, later in steps_from(hands, moments):
            later_counts = after.setdefault(later, {})
            for held, count in counts.items():
                new = held_after(book, line, held)
                later_counts[new] = later_counts.get(new, 0) + count
    return after
