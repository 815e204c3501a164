"""Point 7: obeys, own_cells; what a dealing is."""

import random
import unittest

from tests import plain, plainsearch
from tests.test_weavings import WIDE, WIDTH_3003
from weavelines.dealings import obeys, own_cells
from weavelines.errors import BadDealing, BadHands, BadMachine, BadWishes, TooMany
from weavelines.judges import keeps

MACHINE = (4, (1, 2))
DEEPER = (0, 0, (0,))
FREE = (("common", 0), ("common", 1), ("common", 2), ("common", 3))

# Values that tell of no cell whose it is, if there are two hands.
WRONG_PLACES = plain.ODD + [2, -1, 10 ** 30, (), (0,), ("common",), ("common", 0, 0), ["common", 0], "common",
                            ("Common", 0), ("own", 0), (None, 0), (0, 0), ((), 0), ([], 0), (True, 0),
                            ("common", 4), ("common", -1), ("common", True), ("common", False), ("common", None),
                            ("common", "c0"), ("common", ()), ("common", (0,)), ("common", (0, 0, 0)),
                            ("common", (2, 0)), ("common", [0, 0]), ("common", (1, 0, True)),
                            ("common", plainsearch.chain(0, 0, 9)), ("common", plainsearch.chain(0, 0, 5000))]


def some_dealing(chance, machine, hands, wishes):
    """A dealing to which the hands are not unlikely to keep."""
    dealing = []
    for cell in range(machine[0]):
        setters = [hand for hand, row in enumerate(hands) if any(line[0] == cell for line in row)]
        terms = [term for wished in wishes for at, term in wished if at == cell]
        place = chance.choice(setters) if setters else ("common", cell)
        if terms and chance.random() < 0.3:
            place = ("common", chance.choice(terms))
        if chance.random() < 0.15:
            place = chance.choice([("common", cell), ("common", chance.randrange(machine[0])),
                                   chance.randrange(len(hands))])
        dealing.append(place)
    return tuple(dealing)


class AgainstAll(unittest.TestCase):
    def test_obeys(self):
        chance = random.Random(71)
        answers = []
        for machine, hands, wishes in plain.some_cases(3000, 72):
            if chance.random() < 0.3:
                # All hands alike: so cells may be common for other terms.
                hands = (hands[0][:3],) * len(hands)
                wishes = (wishes[0],) * len(hands)
            dealing = some_dealing(chance, machine, hands, wishes)
            told = [plainsearch.keeps_to(machine, row, wished, dealing, hand)
                    for hand, (row, wished) in enumerate(zip(hands, wishes))]
            with self.subTest(machine=machine, hands=hands, wishes=wishes, dealing=dealing):
                self.assertIs(obeys(machine, hands, wishes, dealing), all(told))
                if all(told):
                    self.assertTrue(keeps(machine, hands, wishes))
                    self.assertIsNone(plain.least_harm(machine, hands, wishes))
            answers.append((len(hands), all(told)))
        for many in (1, 2, 3):
            self.assertGreater(answers.count((many, True)), 50)
            self.assertGreater(answers.count((many, False)), 50)


class Conditions(unittest.TestCase):
    """Each condition of the sentence broken alone."""

    def holds(self, *call):
        self.assertIs(obeys(*call), True)
        self.assertTrue(keeps(*call[:3]))

    def broken(self, *call):
        self.assertIs(obeys(*call), False)

    def test_own_cells(self):
        hands = (((0, 0, (0,)),), ((1, 0, (1,)),))
        wishes = (((0, (0, 0)),), ())
        self.holds(MACHINE, hands, wishes, (0, 1, 0, 1))
        self.broken(MACHINE, hands, wishes, (1, 1, 0, 1))
        self.broken(MACHINE, hands, wishes, (0, 0, 0, 1))
        self.broken(MACHINE, (hands[0], ()), wishes, (1, 1, 0, 1))

    def test_another_ones_cell_set(self):
        hands = (((0, 0, (0,)), (3, 0, (0,))), ())
        wishes = (((0, (0, 0)),), ())
        self.holds(MACHINE, hands, wishes, (0, 0, 0, 0))
        self.broken(MACHINE, hands, wishes, (0, 0, 0, 1))

    def test_another_ones_cell_read(self):
        for line in ((0, 0, (3,)), (0, None, (3,)), (0, 1, (3, 0)), (0, 1, (0, 3))):
            hands = ((line,), ())
            self.holds(MACHINE, hands, ((), ()), (0, 0, 0, 0))
            self.holds(MACHINE, hands, ((), ()), (0, 0, 0, ("common", 3)))
            self.broken(MACHINE, hands, ((), ()), (0, 0, 0, 1))

    def test_another_ones_cell_wished(self):
        hands, wishes = ((), ()), (((3, 3),), ())
        self.holds(MACHINE, hands, wishes, (0, 0, 0, 0))
        self.holds(MACHINE, hands, wishes, FREE)
        self.broken(MACHINE, hands, wishes, (0, 0, 0, 1))

    def test_common_for_another_term(self):
        row = ((1, 0, (0,)), (2, 1, (1, 0)))
        hands, wishes = (row, row[:1]), (((2, (1, (0, 0), 0)),), ((1, (0, 0)),))
        free = ("common", 0)
        self.holds(MACHINE, hands, wishes, (free, ("common", (0, 0)), 0, 0))
        # Set to another term than its own.
        self.broken(MACHINE, hands, wishes, (free, ("common", (0, 1)), 0, 0))
        self.broken(MACHINE, hands, wishes, (free, ("common", (1, 0, 0)), 0, 0))
        self.broken(MACHINE, hands, wishes, (free, ("common", 0), 0, 0))
        self.broken(MACHINE, hands, wishes, (free, ("common", 1), 0, 0))
        # Once to its term, and once not.
        for more in ((1, None, (0,)), (1, 0, (3,))):
            for changed in ((more,) + row, row + (more,)):
                self.broken(MACHINE, (changed, ()), (wishes[0], ()), (free, ("common", (0, 0)), 0, 0))
                self.holds(MACHINE, (changed, ()), (wishes[0], ()), (free, 0, 0, 0))
        self.holds(MACHINE, (row[:1] + row, ()), (wishes[0], ()), (free, ("common", (0, 0)), 0, 0))

    def test_common_for_its_own_atom(self):
        # A cell that is common for its own atom isn't set at all, not to that atom either.
        row = ((1, None, (0,)), (0, None, (1,)))
        for dealing in ((0, 0, 0, 0), (0, 0, ("common", 2), ("common", (0, 0)))):
            self.holds(MACHINE, (row, ()), (((0, 0),), ()), dealing)
        self.broken(MACHINE, (row, ()), (((0, 0),), ()), (("common", 0), 0, 0, 0))
        self.broken(MACHINE, (row, ()), ((), ()), (0, ("common", 1), 0, 0))
        self.holds(MACHINE, (row[:1], ()), (((0, 0), (1, 0)), ()), (("common", 0), 0, 0, 0))
        self.holds(MACHINE, (row[:1], ()), (((1, 0),), ()), (("common", 0), ("common", 0), 0, 0))

    def test_read_ahead_of_a_line_that_set_it(self):
        free = ("common", 0)
        told = ("common", (0, 0))
        sets, reads = (1, 0, (0,)), (2, None, (1,))
        self.holds(MACHINE, ((sets, reads), (sets,)), ((), ()), (free, told, 0, 0))
        self.broken(MACHINE, ((reads, sets), (sets,)), ((), ()), (free, told, 0, 0))
        self.broken(MACHINE, ((reads, sets, reads), (sets,)), ((), ()), (free, told, 0, 0))
        # Another hand's line does not count.
        self.broken(MACHINE, ((sets,), (reads,)), ((), ()), (free, told, 1, 0))
        self.holds(MACHINE, ((sets,), (sets, reads)), ((), ()), (free, told, 1, 0))
        # Nor may the line that sets it first read it.
        self.broken(MACHINE, (((1, 0, (1,)),), ()), ((), ()), (free, ("common", (0, 1)), 0, 0))
        self.holds(MACHINE, (((1, 0, (1,)),), ()), ((), ()), (free, 0, 0, 0))
        # An atom that another cell holds at first is such another term.
        self.broken(MACHINE, ((reads,), ()), ((), ()), (free, ("common", 0), 0, 0))
        self.holds(MACHINE, ((reads,), ()), ((), ()), (free, ("common", 1), 0, 0))

    def test_wished_cells_count_as_read_behind_the_row(self):
        told = (("common", 0), ("common", (0, 0)), 0, 0)
        sets = (1, 0, (0,))
        wishes = (((1, (0, 0)),), ())
        self.holds(MACHINE, ((sets,), ()), wishes, told)
        self.broken(MACHINE, ((), ()), wishes, told)
        self.broken(MACHINE, ((), (sets,)), wishes, told)
        self.broken(MACHINE, ((), ()), (((1, 1),), ()), told)

    def test_wishes_that_the_row_does_not_have(self):
        row = ((0, 0, (0,)), (0, 0, (0,)))
        self.holds(MACHINE, (row,), (((0, (0, (0, 0))),),), (0, 0, 0, 0))
        for term in (0, (0, 0), (0, (0, 1)), 1, (0, (0, (0, 0)))):
            self.broken(MACHINE, (row,), (((0, term),),), (0, 0, 0, 0))
        # That a weaving with the other hand brings it about is of no use.
        hands = (((0, 0, (1,)),), ((1, 0, (1,)),))
        self.broken(MACHINE, hands, (((0, (0, (0, 1))),), ()), (0, 0, 0, 0))
        # Only one hand out of three does not have its wish.
        self.holds(MACHINE, ((), (), ()), (((0, 0),), (), ((2, 2),)), FREE)
        self.broken(MACHINE, ((), (), ()), (((0, 0),), (), ((2, 0),)), FREE)

    def test_void(self):
        self.holds(MACHINE, ((),), ((),), FREE)
        self.holds(MACHINE, ((), ()), ((), ()), (1, 0, ("common", 3), ("common", (0, 0))))

    def test_arguments_stay(self):
        hands, wishes, dealing = ((DEEPER,), ()), (((0, (0, 0)),), ()), (0, 1, ("common", 2), ("common", (0, 0)))
        self.holds(MACHINE, hands, wishes, dealing)
        self.holds(MACHINE, hands, wishes, dealing)
        self.assertEqual((hands, wishes, dealing),
                         (((DEEPER,), ()), (((0, (0, 0)),), ()), (0, 1, ("common", 2), ("common", (0, 0)))))


class OwnCells(unittest.TestCase):
    def test_own_cells(self):
        dealing = (1, ("common", 1), 0, 1)
        self.assertEqual([own_cells(MACHINE, dealing, hand) for hand in (0, 1, 2)], [(2,), (0, 3), ()])
        self.assertEqual(own_cells(MACHINE, (2, 2, 2, 2), 2), (0, 1, 2, 3))
        self.assertEqual(own_cells(MACHINE, FREE, 0), ())
        self.assertEqual(own_cells(MACHINE, (("common", (0, 0)), ("common", 2), 2, 0), 0), (3,))
        self.assertEqual(own_cells((1, (2,)), (1,), 1), (0,))

    def test_bad_hand(self):
        for hand in plain.ODD + [3, -1, (0,), (), "1", 10 ** 30]:
            with self.subTest(hand=hand), self.assertRaises(BadDealing):
                own_cells(MACHINE, (0, 1, 2, 0), hand)

    def test_bad_dealing(self):
        for number, place in enumerate(WRONG_PLACES):
            if place == 2 and isinstance(place, int):
                place = 3
            for dealing in ((place, 0, 0, 0), (0, 1, 2, place)):
                with self.subTest(number=number), self.assertRaises(BadDealing):
                    own_cells(MACHINE, dealing, 0)
        for dealing in plain.ODD + [(), (0,), (0, 0, 0), (0, 0, 0, 0, 0), [0, 0, 0, 0], "0000", ("common", 0)]:
            with self.subTest(dealing=dealing), self.assertRaises(BadDealing):
                own_cells(MACHINE, dealing, 0)

    def test_leftmost(self):
        with self.assertRaises(BadMachine):
            own_cells((5, (1,)), None, None)
        with self.assertRaises(BadDealing):
            own_cells(MACHINE, None, None)


class Errors(unittest.TestCase):
    def test_bad_dealing(self):
        hands = ((DEEPER,), ())
        for number, place in enumerate(WRONG_PLACES):
            for dealing in ((place, 0, 0, 0), (0, 0, 1, place)):
                with self.subTest(number=number), self.assertRaises(BadDealing):
                    obeys(MACHINE, hands, ((), ()), dealing)
        for dealing in plain.ODD + [(), (0,), (0, 0, 0), (0, 0, 0, 0, 0), [0, 0, 0, 0], "0000"]:
            with self.subTest(dealing=dealing), self.assertRaises(BadDealing):
                obeys(MACHINE, hands, ((), ()), dealing)

    def test_hands_numbers(self):
        for many in (1, 2, 3):
            void = ((),) * many
            self.assertTrue(obeys(MACHINE, void, void, (many - 1, 0, 0, 0)))
            with self.assertRaises(BadDealing):
                obeys(MACHINE, void, void, (many, 0, 0, 0))

    def test_leftmost(self):
        deep = ((DEEPER,) * 8,)
        with self.assertRaises(BadMachine):
            obeys(None, None, None, None)
        with self.assertRaises(BadHands):
            obeys(MACHINE, None, None, None)
        with self.assertRaises(BadWishes):
            obeys(MACHINE, deep, None, None)
        with self.assertRaises(BadDealing):
            obeys(MACHINE, deep, ((),), None)
        for dealing in ((0, 0, 0, 0), FREE):
            with self.assertRaises(TooMany) as caught:
                obeys(MACHINE, deep, (((0, 0),),), dealing)
            self.assertEqual(caught.exception.most, 8)
        with self.assertRaises(BadDealing):
            obeys(WIDE, WIDTH_3003, ((), ()), (0, 0, 0, 2))
        for dealing in ((0, 0, 0, 0), (0, 1, ("common", 2), ("common", 3))):
            with self.assertRaises(TooMany) as caught:
                obeys(WIDE, WIDTH_3003, ((), ()), dealing)
            self.assertEqual(caught.exception.most, 3000)


if __name__ == "__main__":
    unittest.main()
