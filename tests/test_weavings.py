"""Points 3 and 4: run_weaving, standing, outcomes, sure_terms."""

import unittest
from itertools import product

from tests import plain
from weavelines.counts import right_share, right_weavings
from weavelines.dealings import obeys
from weavelines.errors import BadMoments, BadWeaving, BadWishes, TooMany
from weavelines.judges import harm, keeps, shows_harm
from weavelines.needs import dealing_told, needed, needed_rows
from weavelines.weavings import outcomes, run_weaving, standing, sure_terms

MACHINE = (3, (1, 2))
HANDS = (((0, 0, (1,)), (2, 1, (0, 1))), ((1, None, (0,)), (0, 0, (0,))))

# A hand that notes again and again what another one holds: what it has noted tells the weaving.
WIDE = (4, (1, 1, 2))
NOTE = (0, 2, (0, 1))
SHOWN = ((1, 0, (2,)), (1, 0, (3,)), (1, 1, (2,)), (1, 1, (3,)), (1, 2, (2, 2)), (1, 2, (2, 3)), (1, 2, (3, 2)),
         (1, 2, (3, 3)), (1, None, (2,)), (1, None, (3,)))
C2, C3, PAIR, SAME = SHOWN[8], SHOWN[9], SHOWN[5], SHOWN[7]
WIDTH_3000 = ((NOTE,) * 6, (C3, C2, SAME, C2, PAIR, C2, C3, C2), (C3,))
WIDTH_3001 = ((NOTE,) * 5, (SHOWN[6], SHOWN[1], SHOWN[6], SHOWN[3], SAME, PAIR, SHOWN[1], SHOWN[1], SHOWN[0]), (SAME,))
WIDTH_3003 = ((NOTE,) * 5, SHOWN)


class AgainstAll(unittest.TestCase):
    """Every answer held against all weavings."""

    def test_run_weaving(self):
        for machine, hands, _ in plain.some_cases(60, 1):
            for weaving in plain.all_weavings(hands):
                self.assertEqual(run_weaving(machine, hands, weaving), plain.run(machine, hands, weaving))

    def test_standing(self):
        for machine, hands, _ in plain.some_cases(120, 2):
            told = plain.all_standing(machine, hands)
            self.assertEqual(set(told), set(product(*[range(len(row) + 1) for row in hands])))
            for moments in told:
                with self.subTest(machine=machine, hands=hands, moments=moments):
                    self.assertEqual(standing(machine, hands, moments), told[moments])

    def test_outcomes(self):
        for machine, hands, _ in plain.some_cases(200, 3):
            told = plain.all_standing(machine, hands)
            with self.subTest(machine=machine, hands=hands):
                self.assertEqual(outcomes(machine, hands), told[tuple(len(row) for row in hands)])

    def test_sure_terms(self):
        for machine, hands, _ in plain.some_cases(120, 4):
            for hand in range(len(hands)):
                with self.subTest(machine=machine, hands=hands, hand=hand):
                    self.assertEqual(sure_terms(machine, hands, hand), plain.sure(machine, hands, hand))


class Ordinary(unittest.TestCase):
    def test_run_weaving(self):
        self.assertEqual(run_weaving(MACHINE, HANDS, ()), (0, 1, 2))
        self.assertEqual(run_weaving(MACHINE, HANDS, (0, 1)), ((0, 1), (0, 1), 2))
        self.assertEqual(run_weaving(MACHINE, HANDS, (1, 0, 0, 1)), ((0, (0, 0)), 0, (1, (0, 0), 0)))

    def test_standing(self):
        self.assertEqual(standing(MACHINE, HANDS, (0, 0)), ((0, 1, 2),))
        # By texts f0(c0) comes ahead of f0(c1), and c0 ahead of both.
        self.assertEqual(standing(MACHINE, HANDS, (1, 1)), (((0, 0), 0, 2), ((0, 1), (0, 1), 2)))

    def test_texts_order(self):
        # As tuples of numbers and of tuples these could not be compared at all.
        hands = (((0, 0, (1,)),), ((0, None, (2,)),), ((0, 1, (1, 2)),))
        self.assertEqual(outcomes(MACHINE, hands), ((2, 1, 2), ((0, 1), 1, 2), ((1, 1, 2), 1, 2)))

    def test_void_rows(self):
        self.assertEqual(outcomes(MACHINE, ((),)), ((0, 1, 2),))
        self.assertEqual(standing(MACHINE, ((), ()), (0, 0)), ((0, 1, 2),))
        self.assertEqual(sure_terms(MACHINE, ((),), 0), ((0, 1, 2),))
        self.assertEqual(sure_terms(MACHINE, ((), ((0, None, (1,)),)), 0), ((None, 1, 2),))
        self.assertEqual(sure_terms(MACHINE, ((), ((0, None, (1,)),)), 1), ((0, 1, 2), (1, 1, 2)))
        self.assertEqual(run_weaving(MACHINE, ((), ((0, None, (1,)),)), (1,)), (1, 1, 2))

    def test_sure_terms(self):
        self.assertEqual(sure_terms(MACHINE, HANDS, 0), ((None, None, 2), (None, None, 2), (None, None, None)))
        hands = (((0, 0, (1,)), (0, None, (2,))), ((2, 0, (0,)),))
        self.assertEqual(sure_terms(MACHINE, hands, 0), ((0, 1, None), ((0, 1), 1, None), (None, 1, None)))

    def test_most_lines(self):
        hands = (((0, 0, (1,)),) * 12, ((1, 0, (2,)),) * 12, ((3, None, (2,)),) * 12)
        self.assertEqual(outcomes((4, (1,)), hands), (((0, 1), (0, 2), 2, 2), ((0, (0, 2)), (0, 2), 2, 2)))

    def test_arguments_stay(self):
        machine, hands, moments = (3, (1, 2)), (((0, 0, (1,)),), ((1, None, (0,)),)), (1, 1)
        for call in (lambda: run_weaving(machine, hands, (0, 1)), lambda: standing(machine, hands, moments),
                     lambda: outcomes(machine, hands), lambda: sure_terms(machine, hands, 0)):
            self.assertEqual(call(), call())
        self.assertEqual((machine, hands, moments), ((3, (1, 2)), (((0, 0, (1,)),), ((1, None, (0,)),)), (1, 1)))

    def test_kinds(self):
        for answer in (run_weaving(MACHINE, HANDS, (0, 1)), standing(MACHINE, HANDS, (1, 1)),
                       outcomes(MACHINE, HANDS), sure_terms(MACHINE, HANDS, 1)):
            self.all_tuples(answer)

    def all_tuples(self, value):
        self.assertIn(type(value), (tuple, int, type(None)))
        if isinstance(value, tuple):
            for part in value:
                self.all_tuples(part)


class Errors(unittest.TestCase):
    def test_bad_weaving(self):
        for weaving in plain.ODD + [[0, 1], (2,), (-1,), (True,), (False,), (None,), ("0",), ((0,),), ([],), ({},),
                                    (0, 0, 0), (1, 1, 1), (0, 1, 0, 1, 0), (0, True), (0, False)]:
            with self.subTest(weaving=weaving), self.assertRaises(BadWeaving):
                run_weaving(MACHINE, HANDS, weaving)
        with self.assertRaises(BadWeaving):
            run_weaving(MACHINE, ((),), (0,))

    def test_bad_moments(self):
        for moments in plain.ODD + [(), (0,), (0, 0, 0), [0, 0], (3, 0), (0, 3), (-1, 0), (0, -1), (True, 0),
                                    (0, False), (None, 0), ("0", 0), ((0,), 0), ([], 0), ({}, {})]:
            with self.subTest(moments=moments), self.assertRaises(BadMoments):
                standing(MACHINE, HANDS, moments)

    def test_bad_hand(self):
        for hand in plain.ODD + [2, (0,), ()]:
            with self.subTest(hand=hand), self.assertRaises(BadWeaving):
                sure_terms(MACHINE, HANDS, hand)


def held_plainly(machine, hands):
    """All that the cells can hold, worked out moments by moments."""
    held = {(0,) * len(hands): {tuple(range(machine[0]))}}
    for moments in product(*[range(len(row) + 1) for row in hands]):
        found = held.setdefault(moments, set())
        for hand, row in enumerate(hands):
            if moments[hand]:
                before = moments[:hand] + (moments[hand] - 1,) + moments[hand + 1:]
                cell, function, sources = row[moments[hand] - 1]
                for cells in held[before]:
                    parts = tuple(cells[source] for source in sources)
                    new = parts[0] if function is None else (function,) + parts
                    found.add(cells[:cell] + (new,) + cells[cell + 1:])
    return held


class TooWide(unittest.TestCase):
    def calls(self, hands):
        wishes = tuple(() for _ in hands)
        ends = tuple(len(row) for row in hands)
        calls = [lambda: outcomes(WIDE, hands), lambda: standing(WIDE, hands, ends),
                 lambda: standing(WIDE, hands, (0,) * len(hands)), lambda: sure_terms(WIDE, hands, 0),
                 lambda: obeys(WIDE, hands, wishes, (0, 0, 0, 0))]
        for call in (keeps, harm, needed, needed_rows, dealing_told, right_weavings, right_share):
            calls.append(lambda call=call: call(WIDE, hands, wishes))
        if len(hands) < 3:
            # A harm that shows at once doesn't keep the rest from being gone through.
            calls.append(lambda: harm(WIDE, hands + ((),), wishes + (((0, 1),),)))
            calls.append(lambda: keeps(WIDE, hands + ((),), wishes + (((0, 1),),)))
        return calls

    def test_plain_widths(self):
        for hands, width in ((WIDTH_3000, 3000), (WIDTH_3001, 3001), (WIDTH_3003, 3003)):
            held = held_plainly(WIDE, hands)
            self.assertEqual(max(len(found) for found in held.values()), width)
            terms = {term for found in held.values() for cells in found for term in cells}
            self.assertLessEqual(max(plain.depth(term) for term in terms), 8)

    def test_too_many(self):
        for hands in (WIDTH_3001, WIDTH_3003):
            for number, call in enumerate(self.calls(hands)):
                with self.subTest(number=number), self.assertRaises(TooMany) as caught:
                    call()
                self.assertEqual(caught.exception.most, 3000)

    def test_just_not_too_many(self):
        held = held_plainly(WIDE, WIDTH_3000)
        self.assertEqual(outcomes(WIDE, WIDTH_3000), plain.ascending(held[(6, 8, 1)]))
        widest = max(held, key=lambda moments: len(held[moments]))
        self.assertEqual(standing(WIDE, WIDTH_3000, widest), plain.ascending(held[widest]))
        self.assertEqual(len(sure_terms(WIDE, WIDTH_3000, 1)), 9)
        self.assertTrue(keeps(WIDE, WIDTH_3000, ((), ((2, 2),), ((3, 3),))))
        self.assertIsNone(harm(WIDE, WIDTH_3000, ((), ((2, 2),), ((3, 3),))))
        self.assertEqual(needed(WIDE, WIDTH_3000, ((), ((2, 2),), ((3, 3),))), ((), (), ()))
        self.assertTrue(obeys(WIDE, WIDTH_3000[:1] + ((), ()), ((), (), ()), (0, 0, 0, 0)))
        self.assertEqual(right_share(WIDE, WIDTH_3000, ((), ((2, 2),), ((3, 3),))), (1, 1))

    def test_where_it_does_not_count(self):
        weaving = (0, 1) * 5 + (1,) * 5
        self.assertEqual(run_weaving(WIDE, WIDTH_3003, weaving), plain.run(WIDE, WIDTH_3003, weaving))
        self.assertFalse(shows_harm(WIDE, WIDTH_3003, ((), ((1, 3),)), weaving))
        self.assertTrue(shows_harm(WIDE, WIDTH_3003, ((), ((1, 2),)), weaving))

    def test_behind_all_others(self):
        with self.assertRaises(BadMoments):
            standing(WIDE, WIDTH_3003, (0, 11))
        with self.assertRaises(BadWeaving):
            sure_terms(WIDE, WIDTH_3003, 2)
        with self.assertRaises(BadWishes):
            keeps(WIDE, WIDTH_3003, ((), ((0, 9),)))

    def test_too_deep_and_too_many(self):
        deeper = WIDTH_3003[1] + ((0, 2, (0, 0)),) * 2
        for call in self.calls((WIDTH_3003[0], deeper)):
            with self.assertRaises(TooMany) as caught:
                call()
            self.assertEqual(caught.exception.most, 8)


if __name__ == "__main__":
    unittest.main()
