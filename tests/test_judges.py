"""Point 5: keeps, harm, shows_harm."""

import unittest

from tests import plain
from weavelines.errors import BadWishes, TooMany
from weavelines.judges import harm, keeps, shows_harm

MACHINE = (3, (1, 2))
HANDS = (((0, 0, (1,)), (2, 1, (0, 1))), ((1, None, (0,)), (0, 0, (0,))))
DEEPER = (0, 0, (0,))


class AgainstAll(unittest.TestCase):
    """Every answer held against all weavings, whole or not."""

    def test_keeps_and_harm(self):
        answers = []
        for machine, hands, wishes in plain.some_cases(500, 11):
            told = plain.least_harm(machine, hands, wishes)
            answers.append(told)
            with self.subTest(machine=machine, hands=hands, wishes=wishes):
                self.assertEqual(harm(machine, hands, wishes), told)
                self.assertIs(keeps(machine, hands, wishes), told is None)
        self.assertGreater(answers.count(None), 50)
        self.assertGreater(answers.count(()), 5)
        self.assertGreater(len(set(answers)), 20)

    def test_shows_harm(self):
        for machine, hands, wishes in plain.some_cases(80, 12):
            for weaving in plain.all_weavings(hands):
                with self.subTest(machine=machine, hands=hands, wishes=wishes, weaving=weaving):
                    told = plain.harmed(machine, hands, wishes, weaving)
                    self.assertIs(shows_harm(machine, hands, wishes, weaving), told)


class Ordinary(unittest.TestCase):
    def test_kept(self):
        hands = (((0, 0, (0,)),), ((1, 1, (1, 2)),))
        wishes = (((0, (0, 0)), (2, 2)), ((1, (1, 1, 2)),))
        self.assertTrue(keeps(MACHINE, hands, wishes))
        self.assertIsNone(harm(MACHINE, hands, wishes))

    def test_harm(self):
        hands = (((0, 0, (0,)),), ((0, 0, (0,)),))
        wishes = (((0, (0, 0)),), ())
        # Either hand's line twice over is a harm; (0,) alone is none yet.
        self.assertFalse(keeps(MACHINE, hands, wishes))
        self.assertEqual(harm(MACHINE, hands, wishes), (0, 1))
        self.assertEqual(harm(MACHINE, hands, ((), ((0, (0, 0)),))), (0, 1))
        self.assertFalse(shows_harm(MACHINE, hands, wishes, (0,)))
        self.assertTrue(shows_harm(MACHINE, hands, wishes, (0, 1)))
        self.assertTrue(shows_harm(MACHINE, hands, wishes, (1, 0)))

    def test_only_behind_all_own_lines(self):
        hands = (((0, 0, (0,)), (0, None, (1,))),)
        self.assertTrue(keeps(MACHINE, hands, (((0, 1),),)))
        self.assertEqual(harm(MACHINE, hands, (((0, 0),),)), (0, 0))
        self.assertFalse(shows_harm(MACHINE, hands, (((0, 0),),), (0,)))

    def test_void_rows(self):
        self.assertTrue(keeps(MACHINE, ((),), (((0, 0), (1, 1), (2, 2)),)))
        self.assertEqual(harm(MACHINE, ((),), (((1, 0),),)), ())
        self.assertTrue(shows_harm(MACHINE, ((),), (((1, 0),),), ()))
        self.assertFalse(shows_harm(MACHINE, ((),), (((1, 1),),), ()))
        self.assertEqual(harm(MACHINE, ((), (DEEPER,)), (((0, 0),), ())), (1,))
        self.assertIsNone(harm(MACHINE, ((), (DEEPER,)), ((), ())))

    def test_harm_that_heals(self):
        # Behind (1,) the wish isn't kept, behind (1, 1) it is again.
        hands = ((), ((0, None, (1,)), (0, None, (2,))))
        machine = (3, (1,))
        wishes = (((0, 2),), ())
        self.assertEqual(harm(machine, hands, wishes), ())
        self.assertTrue(shows_harm(machine, hands, wishes, (1,)))
        self.assertFalse(shows_harm(machine, hands, wishes, (1, 1)))
        self.assertFalse(keeps(machine, hands, wishes))

    def test_least_of_the_shortest(self):
        hands = (((1, None, (2,)),), ((2, None, (0,)),), ((0, None, (1,)),))
        for wishes in ((((1, 2),), (), ()), ((), ((2, 0),), ()), ((), (), ((0, 1),)),
                       (((1, 2),), ((2, 0),), ((0, 1),))):
            told = plain.least_harm(MACHINE, hands, wishes)
            self.assertEqual(len(told), 2)
            self.assertEqual(harm(MACHINE, hands, wishes), told)

    def test_least_of_the_same_end(self):
        # Two shortest weavings lead to the same harm at the same moments by other moments.
        hands = (((1, None, (0,)), (0, None, (1,)), (1, 1, (1, 1))), ((1, None, (0,)),), ((1, 0, (0,)),))
        wishes = ((), ((0, 0),), ())
        self.assertEqual(plain.least_harm((2, (1, 2)), hands, wishes), (0, 1, 2, 0))
        self.assertEqual(harm((2, (1, 2)), hands, wishes), (0, 1, 2, 0))
        self.assertTrue(shows_harm((2, (1, 2)), hands, wishes, (0, 2, 0, 1)))

    def test_long(self):
        row = ((0, None, (1,)), (1, None, (0,))) * 6
        hands = (row, row, ((2, 0, (0,)),) * 12)
        self.assertIsNone(harm(MACHINE, hands, (((0, 1), (1, 1)), ((0, 1),), ((1, 1),))))
        self.assertEqual(harm(MACHINE, hands, (((2, 2),), (), ())), (0,) * 12 + (2,))
        self.assertEqual(harm(MACHINE, hands, ((), ((2, 2),), ())), (1,) * 12 + (2,))
        self.assertEqual(harm(MACHINE, hands, ((), (), ((2, (0, 1)),))), (2,) * 12)

    def test_arguments_stay(self):
        wishes = (((0, (0, 1)),), ((1, 1),))
        self.assertEqual(harm(MACHINE, HANDS, wishes), harm(MACHINE, HANDS, wishes))
        self.assertEqual(wishes, (((0, (0, 1)),), ((1, 1),)))


class AnyValue(unittest.TestCase):
    def test_shows_harm(self):
        wishes = (((0, 1),), ())
        hands = ((), (DEEPER,))
        self.assertIs(shows_harm(MACHINE, hands, wishes, ()), True)
        self.assertIs(shows_harm(MACHINE, hands, wishes, (1,)), True)
        for value in plain.ODD + [[1], (2,), (-1,), (0,), (1, 1), (True,), (False,), (None,), ("1",), ((1,),),
                                  ((),), ([],), ({},), (1, None), "1", {1: 1}, (99,), (True, 1), (10 ** 30,)]:
            with self.subTest(value=value):
                self.assertIs(shows_harm(MACHINE, hands, wishes, value), False)

    def test_deep_value(self):
        value = ()
        for _ in range(5000):
            value = (value,)
        self.assertIs(shows_harm(MACHINE, HANDS, ((), ()), value), False)

    def test_errors_of_the_others(self):
        for value in (None, (), (0,)):
            with self.assertRaises(BadWishes):
                shows_harm(MACHINE, HANDS, None, value)


class Deeper(unittest.TestCase):
    """shows_harm goes on with what is deeper than 8."""

    def test_deeper(self):
        term = 0
        for _ in range(7):
            term = (0, term)
        for hands in (((DEEPER,) * 8,), ((DEEPER,) * 12,), ((DEEPER,) * 7 + (DEEPER, (0, None, (1,))),)):
            whole = (0,) * len(hands[0])
            with self.assertRaises(TooMany):
                keeps(MACHINE, hands, (((0, term),),))
            self.assertIs(shows_harm(MACHINE, hands, (((0, term),),), whole), True)
            self.assertIs(shows_harm(MACHINE, hands, (((0, term),),), whole[:-1]), False)
            self.assertIs(shows_harm(MACHINE, hands, (((2, 2),),), whole), False)
        hands = ((DEEPER,) * 8 + ((0, None, (1,)),),)
        self.assertIs(shows_harm(MACHINE, hands, (((0, 1),),), (0,) * 9), False)
        self.assertIs(shows_harm(MACHINE, hands, (((0, term),),), (0,) * 9), True)

    def test_deepest_and_widest(self):
        # As a tree the last term would have 2 ** 36 leaves.
        hands = (((0, 1, (0, 0)),) * 12,) * 3
        weaving = (0, 1, 2) * 12
        self.assertIs(shows_harm(MACHINE, hands, ((), (), ((0, 0),)), weaving), True)
        self.assertIs(shows_harm(MACHINE, hands, ((), (), ((1, 1), (2, 2))), weaving), False)


class Errors(unittest.TestCase):
    def bad(self, wishes, hand, index, hands=HANDS):
        for call in (keeps, harm, lambda *most: shows_harm(*most, ())):
            with self.subTest(wishes=wishes), self.assertRaises(BadWishes) as caught:
                call(MACHINE, hands, wishes)
            self.assertEqual((caught.exception.hand, caught.exception.index), (hand, index))

    def test_whole(self):
        for wishes in plain.ODD + [(), ((),), ((), (), ()), [(), ()], (None,), ((), (), (), ())]:
            self.bad(wishes, None, None)
        self.bad(((), ()), None, None, hands=((),))
        self.bad(((),), None, None, hands=((), (), ()))

    def test_row(self):
        for row in plain.ODD + [[(0, 0)]]:
            self.bad((row, ()), 0, None)
            self.bad((((0, 0),), row), 1, None)

    def test_wish(self):
        deep = 0
        for _ in range(8):
            deep = (0, deep)
        for wish in plain.ODD + [(), (0,), (1, 1, 1), [1, 1], (3, 0), (-1, 0), (True, 0), (None, 0), ("1", 0),
                                 ((1,), 0), ([], 0), (1, 3), (1, -1), (1, True), (1, None), (1, "c0"), (1, ()),
                                 (1, (2, 0)), (1, (0, 0, 0)), (1, (1, 0)), (1, [0, 0]), (1, (0, True)), (1, deep)]:
            self.bad(((wish,), ()), 0, 0)
            self.bad(((), (wish,)), 1, 0)
            self.bad((((0, 0),), ((0, 0), wish, wish)), 1, 1)
        self.assertFalse(keeps(MACHINE, HANDS, ((), ((0, deep[1]),))))

    def test_ascending(self):
        self.bad((((0, 0), (0, 0)), ()), 0, 1)
        self.bad(((), ((1, 0), (0, 0))), 1, 1)
        self.bad(((), ((0, 0), (2, 0), (1, 0))), 1, 2)
        self.assertFalse(keeps(MACHINE, HANDS, (((0, 0), (1, 0), (2, 0)), ())))

    def test_first(self):
        self.bad((((0, 0), 5), None), 0, 1)
        self.bad((None, (5,)), 0, None)


if __name__ == "__main__":
    unittest.main()
