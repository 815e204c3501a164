"""Plain searches over rows and dealings, to hold the program's answers against."""

from itertools import product

from tests import plain


def parts(term):
    """A term and all terms within it."""
    found = {term}
    if isinstance(term, tuple):
        for part in term[1:]:
            found |= parts(part)
    return found


def parts_wished(wished):
    found = set()
    for _, term in wished:
        found |= parts(term)
    return found


def all_lines(machine):
    cells, functions = machine
    lines = []
    for cell in range(cells):
        lines += [(cell, None, (other,)) for other in range(cells) if other != cell]
        for function, reads in enumerate(functions):
            lines += [(cell, function, sources) for sources in product(range(cells), repeat=reads)]
    return lines


def all_hands(machine, many, total):
    """All hands of so many rows that have so many lines in all."""
    lines = all_lines(machine)
    for cuts in product(range(total + 1), repeat=many - 1):
        ends = (0,) + cuts + (total,)
        if list(ends) == sorted(ends):
            for row in product(lines, repeat=total):
                yield tuple(row[low:high] for low, high in zip(ends, ends[1:]))


def surely_held(machine, hands):
    """For each hand, for each cell, the term that it holds whenever the hand is done, None for no such."""
    return tuple(plain.sure(machine, hands, hand)[len(row)] for hand, row in enumerate(hands))


def may_read(dealing, hand, cell, was_set):
    place = dealing[cell]
    if isinstance(place, int):
        return place == hand
    return place == ("common", cell) or cell in was_set


def keeps_to(machine, row, wished, dealing, hand):
    """The sentence of point 7, line by line of a hand that is done by itself."""
    for done, (cell, _, sources) in enumerate(row):
        was_set = [line[0] for line in row[:done]]
        held = plain.run(machine, (row,), (0,) * (done + 1))
        if not all(may_read(dealing, hand, source, was_set) for source in sources):
            return False
        if isinstance(dealing[cell], int) and dealing[cell] != hand:
            return False
        if isinstance(dealing[cell], tuple) and (dealing[cell][1] == cell or dealing[cell][1] != held[cell]):
            return False
    held = plain.run(machine, (row,), (0,) * len(row))
    was_set = [line[0] for line in row]
    return all(may_read(dealing, hand, cell, was_set) and held[cell] == term for cell, term in wished)


def sturdy_lines(machine):
    """The lines that don't read the cell that they set."""
    return [line for line in all_lines(machine) if line[0] not in line[2]]


def shortest(machine, wished, dealing, hand, lines_of=all_lines, most=5000):
    """How many lines the shortest row has with which a hand keeps to a dealing, None without one.

    Only rows of the lines that lines_of tells count. It goes forward through
    all that such rows can lead to; only what is deeper than all that is wished
    is left out, since it is part of no wish. OverflowError where that is too
    much to go through.
    """
    deepest = max([plain.depth(term) for _, term in wished], default=0)
    start = (tuple(range(machine[0])), frozenset())
    seen = {start}
    layer = [start]
    length = 0
    while layer:
        for held, was_set in layer:
            if all(may_read(dealing, hand, cell, was_set) and held[cell] == term for cell, term in wished):
                return length
        layer = list(after(lines_of(machine), layer, dealing, hand, deepest, seen))
        length += 1
        if len(seen) > most:
            raise OverflowError
    return None


def after(lines, layer, dealing, hand, deepest, seen):
    lines = [line for line in lines if dealing[line[0]] == hand or
             isinstance(dealing[line[0]], tuple) and dealing[line[0]] != ("common", line[0])]
    for held, was_set in layer:
        for cell, function, sources in lines:
            if not all(may_read(dealing, hand, source, was_set) for source in sources):
                continue
            taken = tuple(held[source] for source in sources)
            new = taken[0] if function is None else (function,) + taken
            if isinstance(dealing[cell], tuple) and dealing[cell][1] != new or plain.depth(new) > deepest:
                continue
            state = (held[:cell] + (new,) + held[cell + 1:], was_set | {cell})
            if state not in seen:
                seen.add(state)
                yield state


def shortest_alone(machine, wished, own, is_sturdy=False):
    """How many lines the shortest row has for which just these cells are set, None without one.

    If is_sturdy, only lines that don't read the cell that they set count. It
    goes forward like shortest, but lets cells hold parts of the wishes alone,
    else None.
    """
    wanted = parts_wished(wished)
    start = tuple(cell if cell in wanted else None for cell in range(machine[0]))
    seen = {start}
    layer = [start]
    length = 0
    while layer:
        if any(all(held[cell] == term for cell, term in wished) for held in layer):
            return length
        further = []
        for held in layer:
            for cell in own:
                read = held[:cell] + held[cell + 1:] if is_sturdy else held
                made = {term for term in wanted if isinstance(term, tuple) and all(part in read for part in term[1:])}
                for new in (made | set(held)) - {None}:
                    after_line = held[:cell] + (new,) + held[cell + 1:]
                    if after_line not in seen:
                        seen.add(after_line)
                        further.append(after_line)
        layer = further
        length += 1
    return None


def looked_at(machine, wishes):
    """The dealings that point 8 lists, in its sequence."""
    wished_parts = [parts_wished(wished) for wished in wishes]
    shared = [term for term in set().union(*wished_parts)
              if isinstance(term, tuple) and sum(term in found for found in wished_parts) > 1]
    shared.sort(key=plain.text)
    places = []
    for cell in range(machine[0]):
        atoms = [atom for atom in range(machine[0])
                 if atom != cell and sum((cell, atom) in wished for wished in wishes) > 1]
        terms = [cell] + atoms + shared
        places.append(list(range(len(wishes))) + [("common", term) for term in terms])
    return list(product(*places))


def some_term(chance, machine, deepest):
    if deepest <= 1 or chance.random() < 0.25:
        return chance.randrange(machine[0])
    function = chance.randrange(len(machine[1]))
    return (function,) + tuple(some_term(chance, machine, deepest - 1) for _ in range(machine[1][function]))


def some_shared_terms(chance, machine, many):
    """The atoms and so many more terms, most of them of the last ones before."""
    terms = list(range(machine[0]))
    while len(terms) < machine[0] + many:
        function = chance.randrange(len(machine[1]))
        term = (function,) + tuple(chance.choice(terms[-5:]) for _ in range(machine[1][function]))
        terms.append(term if plain.depth(term) <= 8 else 0)
    return terms


def some_free_wishes(chance, machine, many, deepest):
    """Wishes of so many hands that often share terms, and seldom wish unlike ones in a cell."""
    pool = [some_term(chance, machine, deepest) for _ in range(3)]
    likely = [chance.choice(pool) for _ in range(machine[0])]
    return tuple(tuple((cell, likely[cell] if chance.random() < 0.9 else chance.choice(pool))
                       for cell in range(machine[0]) if chance.random() < 0.45)
                 for _ in range(many))


def chain(function, atom, depth):
    term = atom
    for _ in range(depth - 1):
        term = (function, term)
    return term
