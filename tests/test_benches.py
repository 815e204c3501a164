"""Point 13: Weaver."""

import random
import unittest

from tests import plain
from tests.test_weavings import WIDE, WIDTH_3003
from weavelines.benches import Weaver
from weavelines.errors import BadHands, BadMachine, BadStep, TooMany
from weavelines.weavings import run_weaving

MACHINE = (3, (1, 2))
DEEPER = (0, 0, (0,))
HANDS = (((0, 0, (1,)), (2, 1, (0, 1))), ((1, None, (0,)),))


class AgainstPlainRuns(unittest.TestCase):
    def check(self, weaver, machine, hands, weaving):
        held = plain.run(machine, hands, weaving)
        self.assertEqual(weaver.holds, held)
        self.assertEqual(weaver.moments, tuple(weaving.count(hand) for hand in range(len(hands))))
        self.assertEqual(weaver.weaving, weaving)
        self.assertEqual(run_weaving(machine, hands, weaver.weaving), held)
        self.assertEqual({type(told) for told in (weaver.holds, weaver.moments, weaver.weaving)}, {tuple})
        return held

    def test_any_sequence(self):
        chance = random.Random(131)
        for machine, hands, _ in plain.some_cases(300, 132):
            weaver = Weaver(machine, hands)
            weaving = ()
            for _ in range(30):
                self.check(weaver, machine, hands, weaving)
                hand = chance.choice([None, 0, 1, 2, 0, 1, 2])
                if hand is None and weaving:
                    weaving = weaving[:-1]
                    self.assertEqual(weaver.undo(), plain.run(machine, hands, weaving))
                elif hand is None:
                    self.assertRaises(BadStep, weaver.undo)
                elif hand < len(hands) and weaving.count(hand) < len(hands[hand]):
                    weaving += (hand,)
                    self.assertEqual(weaver.do(hand), plain.run(machine, hands, weaving))
                else:
                    with self.assertRaises(BadStep):
                        weaver.do(hand)

    def test_there_and_back(self):
        for machine, hands, _ in plain.some_cases(40, 133):
            for weaving in plain.all_weavings(hands)[-3:]:
                weaver = Weaver(machine, hands)
                for done in range(len(weaving)):
                    self.assertEqual(weaver.do(weaving[done]), plain.run(machine, hands, weaving[:done + 1]))
                for done in reversed(range(len(weaving))):
                    self.assertEqual(weaver.undo(), plain.run(machine, hands, weaving[:done]))
                    self.check(weaver, machine, hands, weaving[:done])
                self.assertRaises(BadStep, weaver.undo)


class Steps(unittest.TestCase):
    def test_at_first(self):
        weaver = Weaver(MACHINE, HANDS)
        self.assertEqual((weaver.holds, weaver.moments, weaver.weaving), ((0, 1, 2), (0, 0), ()))
        self.assertEqual(weaver.do(1), (0, 0, 2))
        self.assertEqual(weaver.do(0), ((0, 0), 0, 2))
        self.assertEqual((weaver.holds, weaver.moments, weaver.weaving), (((0, 0), 0, 2), (1, 1), (1, 0)))
        self.assertEqual(weaver.undo(), (0, 0, 2))
        self.assertEqual(weaver.do(0), ((0, 0), 0, 2))
        self.assertEqual(weaver.do(0), ((0, 0), 0, (1, (0, 0), 0)))
        self.assertEqual((weaver.moments, weaver.weaving), ((2, 1), (1, 0, 0)))

    def same_behind(self, weaver, error, call, *arguments):
        before = (weaver.holds, weaver.moments, weaver.weaving)
        with self.assertRaises(error):
            call(*arguments)
        self.assertEqual((weaver.holds, weaver.moments, weaver.weaving), before)

    def test_no_hand(self):
        weaver = Weaver(MACHINE, HANDS)
        for value in plain.ODD + [2, 3, -1, -2, 10 ** 30, (0,), (), "1", [0], 5]:
            with self.subTest(value=value):
                self.same_behind(weaver, BadStep, weaver.do, value)
        weaver.do(0)
        for value in plain.ODD + [2, -1]:
            with self.subTest(value=value):
                self.same_behind(weaver, BadStep, weaver.do, value)
        self.assertEqual(weaver.do(1), ((0, 1), (0, 1), 2))

    def test_no_line_left(self):
        weaver = Weaver(MACHINE, HANDS)
        weaver.do(1)
        self.same_behind(weaver, BadStep, weaver.do, 1)
        weaver.undo()
        self.assertEqual(weaver.do(1), (0, 0, 2))
        weaver = Weaver(MACHINE, ((), ((0, 0, (1,)),)))
        self.same_behind(weaver, BadStep, weaver.do, 0)

    def test_nothing_to_take_back(self):
        weaver = Weaver(MACHINE, HANDS)
        self.same_behind(weaver, BadStep, weaver.undo)
        weaver.do(0)
        weaver.undo()
        self.same_behind(weaver, BadStep, weaver.undo)
        self.assertEqual(weaver.do(0), ((0, 1), 1, 2))

    def test_too_deep(self):
        weaver = Weaver(MACHINE, ((DEEPER,) * 12, (DEEPER, (0, None, (1,)))))
        for done in range(1, 8):
            self.assertEqual(weaver.do(0), plain.run(MACHINE, ((DEEPER,) * 12,), (0,) * done))
        for hand in (0, 1, 0):
            self.same_behind(weaver, TooMany, weaver.do, hand)
        with self.assertRaises(TooMany) as caught:
            weaver.do(0)
        self.assertEqual(caught.exception.most, 8)
        # Just the lines that are done count: of another weaving the rest may be done.
        weaver.undo()
        weaver.do(1)
        self.same_behind(weaver, TooMany, weaver.do, 0)
        self.assertEqual(weaver.do(1), (1, 1, 2))
        self.assertEqual(weaver.do(0), ((0, 1), 1, 2))
        self.assertEqual(weaver.weaving, (0,) * 6 + (1, 1, 0))
        # No hand, no line left: that comes ahead.
        weaver = Weaver(MACHINE, ((DEEPER,) * 7, (DEEPER,)))
        for _ in range(7):
            weaver.do(0)
        self.same_behind(weaver, BadStep, weaver.do, 0)
        self.same_behind(weaver, BadStep, weaver.do, 2)
        self.same_behind(weaver, TooMany, weaver.do, 1)

    def test_deepest_part(self):
        for last in ((2, 1, (1, 0)), (2, 1, (0, 1)), (1, 0, (0,))):
            weaver = Weaver(MACHINE, ((DEEPER,) * 7 + (last,),))
            for _ in range(7):
                weaver.do(0)
            self.same_behind(weaver, TooMany, weaver.do, 0)

    def test_copies_are_no_deeper(self):
        weaver = Weaver(MACHINE, ((DEEPER,) * 7 + ((1, None, (0,)), (2, None, (1,))),))
        for _ in range(9):
            held = weaver.do(0)
        self.assertEqual(held[0], held[2])

    def test_width_does_not_count(self):
        weaver = Weaver(WIDE, WIDTH_3003)
        for hand in (0, 1) * 5:
            held = weaver.do(hand)
        self.assertEqual(held, plain.run(WIDE, WIDTH_3003, (0, 1) * 5))

    def test_unlike_objects(self):
        first, second = Weaver(MACHINE, HANDS), Weaver(MACHINE, HANDS)
        first.do(0)
        self.assertEqual((second.holds, second.moments, second.weaving), ((0, 1, 2), (0, 0), ()))
        told = (first.holds, first.moments, first.weaving)
        first.do(1)
        self.assertEqual(told, (((0, 1), 1, 2), (1, 0), (0,)))


class Errors(unittest.TestCase):
    def test_bad_machine(self):
        for machine, part in [(machine, "machine") for machine in plain.ODD + [()]] + [
                ((0, (1,)), "cells"), ((5, None), "cells"), ((True, (1,)), "cells"), ((2, ()), "functions"),
                ((2, (3,)), "functions"), ((2, [1]), "functions")]:
            with self.subTest(machine=machine), self.assertRaises(BadMachine) as caught:
                Weaver(machine, None)
            self.assertEqual(caught.exception.part, part)

    def test_bad_hands(self):
        rows = [(hands, None, None) for hands in plain.ODD + [(), ((), (), (), ())]]
        rows += [((row,), 0, None) for row in plain.ODD + [(DEEPER,) * 13]]
        rows += [(((), (DEEPER, line)), 1, 1) for line in plain.ODD + [(0, None, (0,)), (0, 2, (0,)), (3, 0, (0,))]]
        for hands, hand, index in rows:
            with self.subTest(hands=hands), self.assertRaises(BadHands) as caught:
                Weaver(MACHINE, hands)
            self.assertEqual((caught.exception.hand, caught.exception.index), (hand, index))

    def test_deep_hands_are_taken(self):
        self.assertEqual(Weaver(MACHINE, ((DEEPER,) * 12,) * 3).holds, (0, 1, 2))


if __name__ == "__main__":
    unittest.main()
