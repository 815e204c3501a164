"""Terms and their texts."""

from weavelines.checks import check_machine, is_term
from weavelines.errors import BadTerm


def text_of(term):
    """The text of what is known to be a term."""
    if not isinstance(term, tuple):
        return f"c{term}"
    parts = ",".join([text_of(part) for part in term[1:]])
    return f"f{term[0]}({parts})"


def term_text(machine, term):
    """The text of a term of the machine; BadTerm for what is none."""
    check_machine(machine)
    if not is_term(machine, term):
        raise BadTerm()
    return text_of(term)
