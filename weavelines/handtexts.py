"""Texts of terms, of machines and of hands, read and written."""

from weavelines.checks import DEEPEST, MOST_CELLS, MOST_FUNCTIONS, MOST_HANDS, MOST_LINES, MOST_READ
from weavelines.checks import check_hands, check_machine, check_string, is_number
from weavelines.errors import BadTerm
from weavelines.words import lettered_figure, line_readers

# What stands ahead of a term's first part and of its second.
OPENINGS = "(,"


def read_term(machine, text):
    """The term of the machine that a text tells; BadTerm if it tells none."""
    check_machine(machine)
    check_string(text)
    term, end = read_part(machine, text, 0, DEEPEST)
    if end != len(text):
        raise BadTerm()
    return term


def read_part(machine, text, start, deepest):
    """The term, at most so deep, that a text tells from a place on, and the place behind it."""
    cells, functions = machine
    if deepest < 1:
        raise BadTerm()
    end = start + 2
    cell = lettered_figure("c", text[start:end])
    if is_number(cell, cells):
        return cell, end
    function = lettered_figure("f", text[start:end])
    if not is_number(function, len(functions)):
        raise BadTerm()
    parts = []
    for opening in OPENINGS[:functions[function]]:
        check_sign(text, end, opening)
        part, end = read_part(machine, text, end + 1, deepest - 1)
        parts.append(part)
    check_sign(text, end, ")")
    return (function, *parts), end + 1


def check_sign(text, at, sign):
    if text[at:at + 1] != sign:
        raise BadTerm()


def write_hands(machine, hands):
    """The text of a machine and hands."""
    check_machine(machine)
    check_hands(machine, hands)
    cells, functions = machine
    lines = [f"cells {cells}", " ".join(["reads", *[str(reads) for reads in functions]])]
    for row in hands:
        lines.append("hand")
        lines.extend([line_text(line) for line in row])
    return "\n".join(lines)


def line_text(line):
    """The text of one line of a hand."""
    cell, function, sources = line
    doing = "copy" if function is None else f"f{function}"
    return " ".join([str(cell), doing, *[str(source) for source in sources]])


def read_hands(text):
    """The machine and the hands that a text tells; BadLine if it tells none."""
    check_string(text)
    lines = line_readers(text)
    machine = (read_cells(lines[0]), read_functions(lines[1]))
    return machine, read_rows(machine, lines[2], lines[3:-1])


def read_cells(line):
    line.read_word("cells")
    cells = line.read_number(1, MOST_CELLS)
    line.read_end()
    return cells


def read_functions(line):
    line.read_word("reads")
    functions = [line.read_number(1, MOST_READ)]
    while len(functions) < min(MOST_FUNCTIONS, len(line.words) - 1):
        functions.append(line.read_number(1, MOST_READ))
    line.read_end()
    return tuple(functions)


def read_rows(machine, first, further):
    """The hands that a first line and the ones behind it tell."""
    first.read_word("hand")
    first.read_end()
    rows = [[]]
    for line in further:
        if line.words[0] == "hand":
            line.read_word("hand")
            line.require(len(rows) < MOST_HANDS)
            line.read_end()
            rows.append([])
        else:
            cell = line.read_number(0, machine[0] - 1)
            line.require(len(rows[-1]) < MOST_LINES)
            function, sources = read_doing(machine, cell, line)
            rows[-1].append((cell, function, sources))
    return tuple([tuple(row) for row in rows])


def read_doing(machine, cell, line):
    """The function, None for a copy, and the sources of a line that sets a cell."""
    cells, functions = machine
    word = line.next_word()
    if word == "copy":
        source = line.read_number(0, cells - 1)
        line.require(source != cell)
        line.read_end()
        return None, (source,)
    function = lettered_figure("f", word)
    line.require(is_number(function, len(functions)))
    sources = [line.read_number(0, cells - 1) for _ in range(functions[function])]
    line.read_end()
    return function, tuple(sources)
