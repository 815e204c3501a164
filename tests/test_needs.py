"""Point 6: needed, needed_rows; point 8: dealing_told."""

import random
import unittest

from tests import plain, plainsearch
from tests.test_weavings import WIDE, WIDTH_3001, WIDTH_3003
from weavelines.dealings import obeys
from weavelines.errors import BadHands, BadMachine, BadWishes, NoDealing, TooMany
from weavelines.judges import keeps
from weavelines.needs import dealing_told, needed, needed_rows
from weavelines.searches import woven_rows

MACHINE = (3, (1, 2))
CALLS = (needed, needed_rows, dealing_told)
DEEPER = (0, 0, (0,))


def needed_plainly(row, cells):
    """The document's sentence: the last line that sets each, and so on for the sources."""
    found = set()
    left = [(cell, len(row)) for cell in cells]
    while left:
        cell, end = left.pop()
        places = [place for place in range(end) if row[place][0] == cell]
        if places and places[-1] not in found:
            found.add(places[-1])
            left += [(source, places[-1]) for source in row[places[-1]][2]]
    return tuple(sorted(found))


def needed_row_plainly(machine, row, cells):
    row = tuple(row[place] for place in needed_plainly(row, cells))
    for cell in range(machine[0]):
        terms = {plain.run(machine, (row,), (0,) * done)[cell] for done in range(1, len(row) + 1)
                 if row[done - 1][0] == cell}
        if terms == {cell}:
            return needed_row_plainly(machine, tuple(line for line in row if line[0] != cell), cells)
    return row


def told_plainly(machine, rows):
    dealing = []
    for cell in range(machine[0]):
        setters = [hand for hand, row in enumerate(rows) if any(line[0] == cell for line in row)]
        if not setters:
            dealing.append(("common", cell))
        elif len(setters) == 1:
            dealing.append(setters[0])
        else:
            row = rows[setters[0]]
            dealing.append(("common", plain.run(machine, (row,), (0,) * len(row))[cell]))
    return tuple(dealing)


def some_kept(many, seed):
    """Machines, hands and wishes that they keep, with lines put in that may not be needed."""
    chance = random.Random(seed)
    while many:
        machine = (chance.randint(1, 4), tuple(chance.randint(1, 2) for _ in range(chance.randint(1, 2))))
        wishes = plainsearch.some_free_wishes(chance, machine, chance.choice((1, 2, 2, 3)), chance.choice((2, 2, 3)))
        try:
            rows = [list(row) for row in woven_rows(machine, wishes)]
        except (NoDealing, TooMany):
            continue
        for _ in range(chance.randint(0, 3)):
            row = chance.choice(rows)
            row.insert(chance.randint(0, len(row)), plain.some_line(chance, machine))
        hands = tuple(map(tuple, rows))
        if 1 < sum(map(len, hands)) < 7 and plain.least_harm(machine, hands, wishes) is None:
            many -= 1
            yield machine, hands, wishes


class AgainstAll(unittest.TestCase):
    def check(self, machine, hands, wishes):
        cells = [[cell for cell, _ in wished] for wished in wishes]
        places = tuple(needed_plainly(row, wished) for row, wished in zip(hands, cells))
        rows = tuple(needed_row_plainly(machine, row, wished) for row, wished in zip(hands, cells))
        told = told_plainly(machine, rows)
        with self.subTest(machine=machine, hands=hands, wishes=wishes):
            self.assertEqual(needed(machine, hands, wishes), places)
            self.assertEqual(needed_rows(machine, hands, wishes), rows)
            self.assertEqual(dealing_told(machine, hands, wishes), told)
            # So these rows keep to that dealing, and keep the wishes.
            self.assertTrue(obeys(machine, rows, wishes, told))
            self.assertIsNone(plain.least_harm(machine, rows, wishes))
            self.assertTrue(keeps(machine, rows, wishes))
        return told, places != tuple(tuple(range(len(row))) for row in hands)

    def test_kept(self):
        answers = [self.check(*case) for case in some_kept(700, 61)]
        told = [place for dealing, _ in answers for place in dealing]
        self.assertGreater(len([place for place in told if isinstance(place, int)]), 100)
        self.assertGreater(len([place for place in told if isinstance(place, tuple) and place[1] in (0, 1, 2)]), 100)
        self.assertGreater(len([place for place in told if isinstance(place, tuple) and place[1] not in range(4)]), 20)
        self.assertGreater(len([some for _, some in answers if some]), 100)

    def test_kept_or_not(self):
        kept = 0
        for machine, hands, wishes in plain.some_cases(400, 62):
            if plain.least_harm(machine, hands, wishes) is None:
                self.check(machine, hands, wishes)
                kept += 1
                continue
            for call in CALLS:
                with self.subTest(machine=machine, hands=hands, wishes=wishes):
                    with self.assertRaises(BadHands) as caught:
                        call(machine, hands, wishes)
                    self.assertEqual((caught.exception.hand, caught.exception.index), (None, None))
        self.assertGreater(kept, 50)


class Ordinary(unittest.TestCase):
    def test_not_needed(self):
        ahead, between, behind = (2, 0, (0,)), (1, None, (0,)), (2, None, (1,))
        first, last = (0, 0, (1,)), (0, 1, (0, 0))
        wishes = (((0, (1, (0, 1), (0, 1))),),)
        for row, places in (((first, last), (0, 1)), ((ahead, first, last), (1, 2)),
                            ((first, between, last), (0, 2)), ((first, last, behind), (0, 1)),
                            ((ahead, ahead, first, between, last, behind), (2, 4)),
                            ((last, first, last), (1, 2)), ((first, first, last), (1, 2))):
            with self.subTest(row=row):
                self.assertEqual(needed(MACHINE, (row,), wishes), (places,))
                self.assertEqual(needed_rows(MACHINE, (row,), wishes), ((first, last),))
                self.assertEqual(dealing_told(MACHINE, (row,), wishes), (0, ("common", 1), ("common", 2)))

    def test_wished_cells_that_no_line_sets(self):
        wishes = (((0, (0, 0)), (1, 1)), ((2, 2),))
        self.assertEqual(needed(MACHINE, ((DEEPER,), ()), wishes), ((0,), ()))
        self.assertEqual(needed_rows(MACHINE, ((DEEPER,), ()), wishes), ((DEEPER,), ()))
        self.assertEqual(dealing_told(MACHINE, ((DEEPER,), ()), wishes), (0, ("common", 1), ("common", 2)))

    def test_without_wishes(self):
        hands = ((DEEPER, DEEPER), (), (DEEPER,))
        self.assertEqual(needed(MACHINE, hands, ((), (), ())), ((), (), ()))
        self.assertEqual(needed_rows(MACHINE, hands, ((), (), ())), ((), (), ()))
        self.assertEqual(dealing_told(MACHINE, hands, ((), (), ())), tuple(("common", cell) for cell in range(3)))
        self.assertEqual(needed(MACHINE, ((),), ((),)), ((),))
        self.assertEqual(needed((1, (1,)), ((), ()), (((0, 0),), ())), ((), ()))

    def test_own_atom_alone(self):
        # Cell 0 is set to its own atom alone; without that line the first isn't needed any longer.
        hands = (((1, None, (0,)), (0, None, (1,)), (2, 0, (0,))),)
        wishes = (((0, 0), (2, (0, 0))),)
        self.assertEqual(needed(MACHINE, hands, wishes), ((0, 1, 2),))
        self.assertEqual(needed_rows(MACHINE, hands, wishes), (((2, 0, (0,)),),))
        self.assertEqual(dealing_told(MACHINE, hands, wishes), (("common", 0), ("common", 1), 0))

    def test_own_atom_and_another_term(self):
        # Here cell 0 is set to something else, too, which is needed.
        hands = (((1, None, (0,)), DEEPER, (2, 0, (0,)), (0, None, (1,))),)
        wishes = (((0, 0), (2, (0, (0, 0)))),)
        self.assertEqual(needed_rows(MACHINE, hands, wishes), hands)
        self.assertEqual(dealing_told(MACHINE, hands, wishes), (0, 0, 0))

    def test_own_atom_and_a_line_not_needed(self):
        # What cell 0 is set to first isn't needed: of the needed lines all set it to its atom.
        hands = (((1, None, (0,)), DEEPER, (0, None, (1,)), (2, 0, (0,))),)
        wishes = (((2, (0, 0)),),)
        self.assertEqual(needed(MACHINE, hands, wishes), ((0, 2, 3),))
        self.assertEqual(needed_rows(MACHINE, hands, wishes), (((2, 0, (0,)),),))

    def test_again_and_again(self):
        # Only once cell 1's line is left out is cell 0 set to its own atom alone.
        hands = (((2, None, (0,)), (0, None, (1,)), (1, None, (0,)), (0, None, (2,))),)
        wishes = (((0, 0), (1, 1)),)
        self.assertEqual(needed(MACHINE, hands, wishes), ((0, 1, 2, 3),))
        self.assertEqual(needed_rows(MACHINE, hands, wishes), ((),))
        self.assertEqual(dealing_told(MACHINE, hands, wishes), tuple(("common", cell) for cell in range(3)))

    def test_three_kinds(self):
        machine = (4, (1, 2))
        row = ((3, 0, (0,)), (1, 1, (3, 0)))
        hands = (row, ((3, 0, (0,)), (2, 0, (3,))))
        wishes = (((1, (1, (0, 0), 0)),), ((2, (0, (0, 0))),))
        self.assertEqual(dealing_told(machine, hands, wishes), (("common", 0), 0, 1, ("common", (0, 0))))
        # Hand 1 reads for itself alone here, so cell 3 is hand 0's.
        hands = (row, ((2, 0, (0,)), (2, 0, (2,))))
        self.assertEqual(dealing_told(machine, hands, wishes), (("common", 0), 0, 1, 0))

    def test_common_for_another_atom(self):
        copy = (0, None, (1,))
        hands = ((copy,), (copy,), ())
        wishes = (((0, 1),), ((0, 1),), ())
        self.assertEqual(needed_rows(MACHINE, hands, wishes), hands)
        self.assertEqual(dealing_told(MACHINE, hands, wishes), (("common", 1), ("common", 1), ("common", 2)))

    def test_two_hands_of_lines_not_needed(self):
        # Both set cell 2, and neither needs it.
        hands = (((2, 0, (0,)), DEEPER), ((2, None, (1,)), (1, 0, (1,))))
        wishes = (((0, (0, 0)),), ((1, (0, 1)),))
        self.assertEqual(needed(MACHINE, hands, wishes), ((1,), (1,)))
        self.assertEqual(dealing_told(MACHINE, hands, wishes), (0, 1, ("common", 2)))

    def test_arguments_stay(self):
        hands, wishes = ((DEEPER, (1, 0, (1,))), ()), (((0, (0, 0)),), ())
        for call in CALLS:
            self.assertEqual(call(MACHINE, hands, wishes), call(MACHINE, hands, wishes))
            self.assertIs(type(call(MACHINE, hands, wishes)), tuple)
        self.assertEqual((hands, wishes), (((DEEPER, (1, 0, (1,))), ()), (((0, (0, 0)),), ())))


class Errors(unittest.TestCase):
    def not_kept(self, machine, hands, wishes):
        for call in CALLS:
            with self.subTest(hands=hands, wishes=wishes), self.assertRaises(BadHands) as caught:
                call(machine, hands, wishes)
            self.assertEqual((caught.exception.hand, caught.exception.index), (None, None))

    def too_many(self, most, machine, hands, wishes):
        for call in CALLS:
            with self.subTest(hands=hands, wishes=wishes), self.assertRaises(TooMany) as caught:
                call(machine, hands, wishes)
            self.assertEqual(caught.exception.most, most)

    def test_not_kept(self):
        self.not_kept(MACHINE, ((DEEPER,),), (((0, 0),),))
        self.not_kept(MACHINE, ((DEEPER,), ()), ((), ((0, 0),)))
        self.not_kept(MACHINE, ((), ()), (((0, 0),), ((0, 1),)))
        self.not_kept(MACHINE, ((DEEPER,), (DEEPER,)), (((0, (0, 0)),), ()))

    def test_leftmost(self):
        deep = ((DEEPER,) * 8,)
        for call in CALLS:
            with self.assertRaises(BadMachine):
                call(None, None, None)
            with self.assertRaises(BadHands) as caught:
                call(MACHINE, ((DEEPER, None),), None)
            self.assertEqual((caught.exception.hand, caught.exception.index), (0, 1))
            for wishes, told in ((None, (None, None)), (((), ()), (None, None)), ((None,), (0, None)),
                                 ((((0, 3),),), (0, 0)), ((((0, 1), (0, 1)),), (0, 1))):
                with self.assertRaises(BadWishes) as caught:
                    call(MACHINE, deep, wishes)
                self.assertEqual((caught.exception.hand, caught.exception.index), told)

    def test_not_kept_ahead_of_too_deep(self):
        for row in ((DEEPER,) * 8, (DEEPER,) * 12, (DEEPER,) * 8 + ((0, None, (1,)),)):
            self.not_kept(MACHINE, (row,), (((1, 2),),))
            self.not_kept(MACHINE, (row,), (((0, 0),),))
            self.not_kept(MACHINE, (row,), (((0, plainsearch.chain(0, 0, 8)),),))
            self.too_many(8, MACHINE, (row,), (((1, 1),),))
            self.too_many(8, MACHINE, (row,), ((),))
        # Only behind nine lines, of which the eighth goes too deep, is it clear what is kept.
        self.too_many(8, MACHINE, ((DEEPER,) * 8 + ((0, None, (1,)),),), (((0, 1),),))

    def test_not_kept_ahead_of_too_wide(self):
        for hands in (WIDTH_3001, WIDTH_3003):
            void = ((),) * (len(hands) - 1)
            self.not_kept(WIDE, hands, (((2, 3),),) + void)
            self.not_kept(WIDE, hands, (((0, 0),),) + void)
            self.too_many(3000, WIDE, hands, (((2, 2),),) + void)
            self.too_many(3000, WIDE, hands, ((),) + void)

    def test_far_too_many(self):
        # All weavings of these, or all that they lead to, could not be gone through.
        row = ((0, 2, (0, 1)), (1, 2, (1, 0)), (0, None, (1,)), (1, 1, (0,))) * 3
        hands = (row, row[1:] + row[:1], row[2:] + row[:2])
        self.not_kept(WIDE, hands, ((), (), ((0, 0),)))
        self.not_kept(WIDE, hands, (((2, 2), (3, 3)), ((1, plainsearch.chain(0, 0, 8)),), ()))
        self.too_many(8, WIDE, hands, (((2, 2), (3, 3)), (), ((2, 2),)))


if __name__ == "__main__":
    unittest.main()
