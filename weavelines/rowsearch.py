"""Searching, for one hand alone, for a row that keeps to a dealing and has its wishes.

A view is what a hand sees of a dealing: for each cell OWN, PLAIN (an own one
whose atom is no part of the hand's wishes), CLOSED, or the number of the
term for which it is common. The search goes backward: a state tells for each
cell the number of the term that it must hold, or FREE. A step is a last line
that leads to a state, with the state that it requires ahead of it. Sturdy
rows are those in which no line reads the cell that it sets.
"""

OWN = -1
PLAIN = -2
CLOSED = -3
FREE = -1


def state_wished(view, wished):
    """The state that wishes require, None if the view lets no row have them."""
    state = [FREE] * len(view)
    for cell, number in wished:
        if view[cell] not in (OWN, PLAIN, number):
            return None
        state[cell] = number
    return tuple(state)


def is_at_first(state):
    """Whether the cells hold what a state requires before any line is done."""
    return all([number in (FREE, cell) for cell, number in enumerate(state)])


def changed(state, cell, number):
    return state[:cell] + (number,) + state[cell + 1:]


def placings(view, state, number, barred=None):
    """The cells but a barred one in which a term may be read, each with the state that it requires.

    The barred cell is one that the state leaves FREE.
    """
    # An atom that its own cell holds at all times is read there.
    if number < len(view) and view[number] == number:
        return [(number, state)]
    # Where it must be anyway it is read: any other cell would but require more.
    if number in state:
        return [(state.index(number), state)]
    found = []
    is_plain_found = False
    for cell, place in enumerate(view):
        if cell == barred or state[cell] != FREE:
            continue
        if place in (OWN, number) or (place == PLAIN and not is_plain_found):
            found.append((cell, changed(state, cell, number)))
            # Plain cells are alike at all times: one of them will do.
            is_plain_found = is_plain_found or place == PLAIN
    return found


def copy_steps(view, state, cell):
    """The steps that copy what a cell must hold from another one."""
    ahead = changed(state, cell, FREE)
    steps = []
    for source, further in placings(view, ahead, state[cell]):
        if source != cell:
            steps.append(((cell, None, (source,)), further))
    return steps


def term_steps(book, view, state, cell, sturdy_only):
    """The steps that make what a cell must hold by its function."""
    making = book.makings[state[cell]]
    if making is None:
        return []
    function, parts = making
    barred = cell if sturdy_only else None
    ways = [((), changed(state, cell, FREE))]
    for part in parts:
        ways = [(sources + (source,), further) for sources, ahead in ways
                for source, further in placings(view, ahead, part, barred)]
    return [((cell, function, sources), ahead) for sources, ahead in ways]


def steps_to(book, view, state, sturdy_only):
    """All steps to a state that are worth a try."""
    musts = [cell for cell, number in enumerate(state) if number != FREE]
    twice = [cell for cell in musts if state.count(state[cell]) > 1]
    if twice:
        # The later one of two alike may as well be a copy of the other, and as late as can be.
        return [step for cell in twice if state[cell] == state[twice[0]] for step in copy_steps(view, state, cell)]
    steps = []
    for cell in musts:
        steps.extend(copy_steps(view, state, cell))
        steps.extend(term_steps(book, view, state, cell, sturdy_only))
    return steps


def fewest_row(book, view, wished, sturdy_only):
    """A row of as few lines as any, or as any sturdy one, None without one."""
    goal = state_wished(view, wished)
    if goal is None:
        return None
    reached = {goal: None}
    states = [goal]
    while states:
        further = []
        for state in states:
            if is_at_first(state):
                return lines_from(reached, state)
            for line, ahead in steps_to(book, view, state, sturdy_only):
                if ahead not in reached:
                    reached[ahead] = (line, state)
                    further.append(ahead)
        states = further
    return None


def lines_from(reached, state):
    lines = []
    while reached[state] is not None:
        line, state = reached[state]
        lines.append(line)
    return tuple(lines)
