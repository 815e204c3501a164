"""Plain enumerations to hold the program's answers against, and hands to try."""

import random
from itertools import product


def all_weavings(hands):
    """Every weaving of the hands, whole or not, shortest first, then ascending."""
    found = [()]
    for weaving in found:
        for hand, row in enumerate(hands):
            if weaving.count(hand) < len(row):
                found.append(weaving + (hand,))
    return found


def run(machine, hands, weaving):
    held = list(range(machine[0]))
    rows = [list(row) for row in hands]
    for hand in weaving:
        cell, function, sources = rows[hand].pop(0)
        parts = tuple(held[source] for source in sources)
        held[cell] = parts[0] if function is None else (function,) + parts
    return tuple(held)


def moments_behind(hands, weaving):
    return tuple(weaving.count(hand) for hand in range(len(hands)))


def text(term):
    if isinstance(term, int):
        return "c" + str(term)
    return "f" + str(term[0]) + "(" + ",".join(text(part) for part in term[1:]) + ")"


def depth(term):
    return 1 if isinstance(term, int) else 1 + max(depth(part) for part in term[1:])


def ascending(found):
    return tuple(sorted(found, key=lambda held: tuple(text(term) for term in held)))


def all_standing(machine, hands):
    """For all moments that there are, what standing must return."""
    found = {}
    for weaving in all_weavings(hands):
        held = run(machine, hands, weaving)
        found.setdefault(moments_behind(hands, weaving), set()).add(held)
    return {moments: ascending(found[moments]) for moments in found}


def sure(machine, hands, hand):
    answer = []
    for done in range(len(hands[hand]) + 1):
        held = [run(machine, hands, weaving) for weaving in all_weavings(hands) if weaving.count(hand) == done]
        cells = [set(terms) for terms in zip(*held)]
        answer.append(tuple(terms.pop() if len(terms) == 1 else None for terms in cells))
    return tuple(answer)


def harmed(machine, hands, wishes, weaving):
    """Whether some wish isn't kept behind a weaving."""
    held = run(machine, hands, weaving)
    for hand, row in enumerate(hands):
        if weaving.count(hand) == len(row):
            if any(held[cell] != term for cell, term in wishes[hand]):
                return True
    return False


def least_harm(machine, hands, wishes):
    for weaving in all_weavings(hands):
        if harmed(machine, hands, wishes, weaving):
            return weaving
    return None


def lossy_states(machine, hands, many):
    """For every weaving with every line lost or not as may be: the weaving, which were lost, what the cells hold."""
    found = [((), (), tuple(range(machine[0])))]
    for weaving, lost, held in found:
        for hand, row in enumerate(hands):
            done = weaving.count(hand)
            if done < len(row):
                cell, function, sources = row[done]
                parts = tuple(held[source] for source in sources)
                new = parts[0] if function is None else (function,) + parts
                found.append((weaving + (hand,), lost + (False,), held[:cell] + (new,) + held[cell + 1:]))
                of_hand = [was_lost for doer, was_lost in zip(weaving, lost) if doer == hand]
                if len(of_hand) < many or False in of_hand[len(of_hand) - many:]:
                    found.append((weaving + (hand,), lost + (True,), held))
    return found


def sturdy(machine, hands, many, wishes):
    """Whether the wishes are kept whatever the weaving, and whatever is lost."""
    for weaving, _, held in lossy_states(machine, hands, many):
        for hand, row in enumerate(hands):
            if weaving.count(hand) == len(row) and any(held[cell] != term for cell, term in wishes[hand]):
                return False
    return True


def lossy_widths(machine, hands, many):
    """For all moments, how many unlike tuples the cells can hold with how many lines each hand lost last."""
    void = (0,) * len(hands)
    found = {void: {(tuple(range(machine[0])), void)}}
    for moments in product(*[range(len(row) + 1) for row in hands]):
        for hand, row in enumerate(hands):
            if moments[hand] < len(row):
                later = moments[:hand] + (moments[hand] + 1,) + moments[hand + 1:]
                cell, function, sources = row[moments[hand]]
                for held, lost in found[moments]:
                    parts = tuple(held[source] for source in sources)
                    new = parts[0] if function is None else (function,) + parts
                    ways = found.setdefault(later, set())
                    ways.add((held[:cell] + (new,) + held[cell + 1:], lost[:hand] + (0,) + lost[hand + 1:]))
                    if lost[hand] < many:
                        ways.add((held, lost[:hand] + (lost[hand] + 1,) + lost[hand + 1:]))
    return {moments: len(ways) for moments, ways in found.items()}


def some_line(chance, machine):
    cells, functions = machine
    cell = chance.randrange(cells)
    others = [other for other in range(cells) if other != cell]
    if others and chance.random() < 0.3:
        return (cell, None, (chance.choice(others),))
    function = chance.randrange(len(functions))
    return (cell, function, tuple(chance.randrange(cells) for _ in range(functions[function])))


def some_case(chance):
    """A machine and hands with few enough weavings to go through all of them."""
    machine = (chance.randint(1, 4), tuple(chance.randint(1, 2) for _ in range(chance.randint(1, 3))))
    longest = {1: 7, 2: 3, 3: 2}
    many = chance.randint(1, 3)
    lengths = [chance.randint(0, longest[many]) for _ in range(many)]
    hands = tuple(tuple(some_line(chance, machine) for _ in range(length)) for length in lengths)
    return machine, hands


def some_wishes(chance, machine, hands):
    """Wishes that are likely to be kept: most of them for what comes about."""
    weavings = all_weavings(hands)
    wishes = []
    for _ in hands:
        held = run(machine, hands, chance.choice(weavings))
        cells = [cell for cell in range(machine[0]) if chance.random() < 0.4]
        wishes.append(tuple((cell, held[cell]) for cell in cells))
    return tuple(wishes)


def some_cases(many, seed):
    chance = random.Random(seed)
    for _ in range(many):
        machine, hands = some_case(chance)
        yield machine, hands, some_wishes(chance, machine, hands)


# Values that are no integer, no tuple or neither, for any argument.
ODD = [None, True, False, "", "0", "hand", [], [0], {}, {0: 1}, [[]], -1, 99]
