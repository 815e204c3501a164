"""Point 12: term_text; point 2: what a term is."""

import unittest

from tests import plain
from weavelines.errors import BadMachine, BadTerm
from weavelines.terms import term_text

MACHINE = (3, (1, 2))


def chain(depth):
    """A term that is so deep."""
    term = 0
    for _ in range(depth - 1):
        term = (0, term)
    return term


def bush(depth):
    return 2 if depth == 1 else (1, bush(depth - 1), bush(depth - 1))


class Texts(unittest.TestCase):
    def test_atoms(self):
        self.assertEqual([term_text(MACHINE, cell) for cell in range(3)], ["c0", "c1", "c2"])

    def test_terms(self):
        self.assertEqual(term_text(MACHINE, (0, 2)), "f0(c2)")
        self.assertEqual(term_text(MACHINE, (1, 0, 1)), "f1(c0,c1)")
        self.assertEqual(term_text(MACHINE, (1, (0, (1, 2, 2)), 1)), "f1(f0(f1(c2,c2)),c1)")

    def test_deep(self):
        self.assertEqual(term_text(MACHINE, chain(8)), "f0(" * 7 + "c0" + ")" * 7)
        self.assertEqual(term_text(MACHINE, bush(8)), plain.text(bush(8)))

    def test_too_deep(self):
        for term in (chain(9), bush(9), (1, 0, chain(8)), (1, chain(8), 0), chain(5000)):
            with self.assertRaises(BadTerm):
                term_text(MACHINE, term)

    def test_no_terms(self):
        wrong = [None, True, False, "c0", "", [], [0, 1], {}, -1, 3, (), (0,), (0, 1, 1), (1, 0), (1, 0, 1, 2),
                 (2, 0), (-1, 0), (True, 0, 0), (False, 0), (None, 0), ("0", 1), ((0,), 1), ([], 1), ({}, 1),
                 (0, True), (0, None), (0, "c0"), (0, [0]), (0, 3), (0, [0, 1]), (1, 0, (0,)), (1, (1, 0), 0)]
        for term in wrong:
            with self.subTest(term=term), self.assertRaises(BadTerm):
                term_text(MACHINE, term)

    def test_machine_first(self):
        with self.assertRaises(BadMachine):
            term_text((0, (1,)), None)

    def test_argument_stays(self):
        term = (1, (0, 1), 2)
        term_text(MACHINE, term)
        self.assertEqual(term, (1, (0, 1), 2))


if __name__ == "__main__":
    unittest.main()
