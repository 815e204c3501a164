"""Point 10: count_weavings, right_weavings, right_share."""

import unittest
from fractions import Fraction
from itertools import product

from tests import plain
from weavelines.counts import count_weavings, right_share, right_weavings
from weavelines.errors import BadHands, BadMachine, BadNumber, BadWishes, TooMany

MACHINE = (3, (1, 2))
DEEPER = (0, 0, (0,))
COPY = (1, None, (2,))


def right_ones(machine, hands, wishes):
    """How many whole weavings are right at each moment within them, and how many there are."""
    whole = [weaving for weaving in plain.all_weavings(hands) if len(weaving) == sum(map(len, hands))]
    right = [weaving for weaving in whole
             if not any(plain.harmed(machine, hands, wishes, weaving[:done]) for done in range(len(weaving) + 1))]
    return len(right), len(whole)


class CountAll(unittest.TestCase):
    def test_against_all(self):
        for many in (1, 2, 3):
            for lengths in product(range(5 - many), repeat=many):
                hands = tuple((COPY,) * length for length in lengths)
                self.assertEqual(count_weavings(lengths), right_ones(MACHINE, hands, ((),) * many)[1], lengths)

    def test_ends(self):
        self.assertEqual(count_weavings((0,)), 1)
        self.assertEqual(count_weavings((0, 0, 0)), 1)
        self.assertEqual(count_weavings((12,)), 1)
        self.assertEqual(count_weavings((12, 0)), 1)
        self.assertEqual(count_weavings((0, 12, 1)), 13)
        self.assertEqual(count_weavings((12, 12)), 2704156)
        self.assertEqual(count_weavings((12, 12, 12)), 3384731762521200)

    def test_any_sequence(self):
        for lengths in ((1, 2, 3), (3, 2, 1), (2, 1, 3)):
            self.assertEqual(count_weavings(lengths), 60)

    def test_bad_number(self):
        for lengths in plain.ODD + [(), (1, 1, 1, 1), [1, 1], (13,), (-1,), (0, 13), (1, 2, -1), (True,), (False, 1),
                                    (1, True), (None,), ("1",), ((1,),), ([],), ({},), 1, "11", {1: 1}]:
            with self.subTest(lengths=lengths), self.assertRaises(BadNumber):
                count_weavings(lengths)


class Right(unittest.TestCase):
    def test_against_all(self):
        seen = set()
        for machine, hands, wishes in plain.some_cases(300, 41):
            right, whole = right_ones(machine, hands, wishes)
            with self.subTest(machine=machine, hands=hands, wishes=wishes):
                self.assertEqual(right_weavings(machine, hands, wishes), right)
                share = Fraction(right, whole)
                self.assertEqual(right_share(machine, hands, wishes), (share.numerator, share.denominator))
            seen.add(right_share(machine, hands, wishes))
        self.assertGreater(len(seen), 10)

    def test_moments_within(self):
        # At the end the wish is always kept; before, it isn't if both of hand 1's lines come behind hand 0's.
        hands = (((0, 0, (2,)),), ((0, 0, (1,)), (0, 0, (2,))))
        wishes = (((0, (0, 2)),), ())
        self.assertEqual(right_weavings(MACHINE, hands, wishes), 2)
        self.assertEqual(right_share(MACHINE, hands, wishes), (2, 3))
        self.assertEqual(right_weavings(MACHINE, ((),) + hands, (((0, 0),), (), ())), 0)

    def test_beginning(self):
        hands = ((), (COPY,))
        self.assertEqual(right_weavings(MACHINE, hands, (((1, 2),), ())), 0)
        self.assertEqual(right_share(MACHINE, hands, (((1, 2),), ())), (0, 1))
        self.assertEqual(right_weavings(MACHINE, hands, (((1, 1),), ())), 0)
        self.assertEqual(right_weavings(MACHINE, hands, (((0, 0),), ((1, 2),))), 1)

    def test_void(self):
        self.assertEqual(right_weavings(MACHINE, ((),), ((),)), 1)
        self.assertEqual(right_share(MACHINE, ((), ()), ((), ())), (1, 1))
        self.assertEqual(right_weavings(MACHINE, ((),), (((0, 1),),)), 0)

    def test_lowest_terms(self):
        # Right are the weavings in which hand 0's line comes last of all: 2 of 6, and 1 of 2.
        hands = (((0, 0, (1,)),), ((0, None, (1,)),), ((0, None, (2,)),))
        wishes = (((0, (0, 1)),), (), ())
        self.assertEqual(right_weavings(MACHINE, hands, wishes), 2)
        self.assertEqual(right_share(MACHINE, hands, wishes), (1, 3))
        self.assertEqual(right_share(MACHINE, hands[:2], wishes[:2]), (1, 2))

    def test_most_lines(self):
        hands = ((COPY,) * 12, (COPY,) * 12, ((0, 0, (1,)),) * 12)
        self.assertEqual(right_weavings(MACHINE, hands, (((1, 2),), ((1, 2),), ())), 3384731762521200)
        # Hand 2's last line must read what hands 0 and 1 copy, so one of them has begun by then.
        wishes = ((), (), ((0, (0, 2)),))
        self.assertEqual(right_weavings(MACHINE, hands, wishes), 3384731762521200 - 2704156)
        self.assertEqual(right_share(MACHINE, hands, wishes), (1251677699, 1251677700))
        hands = ((COPY,) * 12,) * 2
        self.assertEqual(right_weavings(MACHINE, hands, (((1, 2),), ((1, 2),))), 2704156)

    def test_arguments_stay(self):
        hands, wishes = (((0, 0, (1,)),), (COPY,)), (((0, (0, 1)),), ())
        self.assertEqual(right_share(MACHINE, hands, wishes), right_share(MACHINE, hands, wishes))
        self.assertEqual((hands, wishes), ((((0, 0, (1,)),), (COPY,)), (((0, (0, 1)),), ())))


class Errors(unittest.TestCase):
    def test_leftmost(self):
        deep = ((DEEPER,) * 8,)
        for call in (right_weavings, right_share):
            with self.assertRaises(BadMachine):
                call(None, None, None)
            with self.assertRaises(BadHands):
                call(MACHINE, None, None)
            for wishes in plain.ODD + [(), ((), ()), (((0, 3),),), (((0, 0), (0, 0)),)]:
                with self.assertRaises(BadWishes):
                    call(MACHINE, deep, wishes)
            for wishes in (((),), (((1, 1),),), (((1, 2),),)):
                with self.assertRaises(TooMany) as caught:
                    call(MACHINE, deep, wishes)
                self.assertEqual(caught.exception.most, 8)


if __name__ == "__main__":
    unittest.main()
