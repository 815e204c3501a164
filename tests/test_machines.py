"""Points 1 and 2: machines, hands, their errors."""

import unittest

from tests import plain
from weavelines.benches import Weaver
from weavelines.counts import right_share, right_weavings
from weavelines.dealings import obeys
from weavelines.errors import BadHands, BadMachine, TooMany
from weavelines.handtexts import read_hands, write_hands
from weavelines.judges import harm, keeps, shows_harm
from weavelines.losses import is_sturdy
from weavelines.needs import dealing_told, needed, needed_rows
from weavelines.terms import term_text
from weavelines.weavings import outcomes, run_weaving, standing, sure_terms

MACHINE = (3, (1, 2))
DEEPER = (0, 0, (0,))

# The functions of machine, hands and wishes alone that raise TooMany for hands.
JUDGES = (keeps, harm, needed, needed_rows, dealing_told, right_weavings, right_share)


# Every function of machine and hands, its further arguments being right for one void row and any machine, if they can.
CALLS = [
    lambda machine, hands: run_weaving(machine, hands, ()),
    lambda machine, hands: standing(machine, hands, tuple(0 for _ in hands)),
    lambda machine, hands: outcomes(machine, hands),
    lambda machine, hands: sure_terms(machine, hands, 0),
    lambda machine, hands: shows_harm(machine, hands, tuple(() for _ in hands), ()),
    lambda machine, hands: obeys(machine, hands, tuple(() for _ in hands), (0, 0)),
    lambda machine, hands: is_sturdy(machine, hands, 1, tuple(() for _ in hands)),
    write_hands,
    Weaver,
] + [lambda machine, hands, call=call: call(machine, hands, tuple(() for _ in hands)) for call in JUDGES]


class Machines(unittest.TestCase):
    def bad(self, machine, part):
        for call in CALLS + [lambda machine, hands: term_text(machine, 0)]:
            with self.subTest(machine=machine), self.assertRaises(BadMachine) as caught:
                call(machine, ((),))
            self.assertEqual(caught.exception.part, part)

    def test_right(self):
        for cells in (1, 2, 3, 4):
            for functions in ((1,), (2,), (1, 2), (2, 1, 2)):
                with self.subTest(cells=cells, functions=functions):
                    self.assertEqual(outcomes((cells, functions), ((),)), (tuple(range(cells)),))
                    self.assertEqual(term_text((cells, functions), cells - 1), "c" + str(cells - 1))

    def test_machine(self):
        for machine in plain.ODD + [(), (2,), (2, (1,), 0), [2, (1,)], (0, (1,), 1)]:
            self.bad(machine, "machine")

    def test_cells(self):
        for cells in (0, 5, -1, True, False, None, "2", (2,), [2], {}):
            self.bad((cells, (1,)), "cells")
            self.bad((cells, None), "cells")

    def test_functions(self):
        for functions in plain.ODD + [(), (1, 1, 1, 1), [1], (0,), (3,), (1, 0), (1, 2, 3), (True,), (False,),
                                      (None,), ("1",), ((1,),), ([],), ({},), (-1,)]:
            self.bad((2, functions), "functions")


class Hands(unittest.TestCase):
    def bad(self, hands, hand, index, machine=MACHINE):
        for call in [outcomes,
                     lambda machine, hands: run_weaving(machine, hands, ()),
                     lambda machine, hands: standing(machine, hands, ()),
                     lambda machine, hands: sure_terms(machine, hands, 0),
                     lambda machine, hands: shows_harm(machine, hands, (), ()),
                     lambda machine, hands: obeys(machine, hands, (), ()),
                     lambda machine, hands: is_sturdy(machine, hands, 0, ()),
                     write_hands, Weaver,
                     *[lambda machine, hands, call=call: call(machine, hands, ()) for call in JUDGES]]:
            with self.subTest(hands=hands), self.assertRaises(BadHands) as caught:
                call(machine, hands)
            self.assertEqual((caught.exception.hand, caught.exception.index), (hand, index))

    def test_right(self):
        copy = (0, None, (1,))
        for hands in (((),), ((), ()), ((), (), ()), ((copy,) * 12,), ((copy,), (copy,) * 12, ())):
            with self.subTest(hands=hands):
                self.assertEqual(run_weaving(MACHINE, hands, ()), (0, 1, 2))
                self.assertIn(outcomes(MACHINE, hands), (((0, 1, 2),), ((1, 1, 2),)))

    def test_no_tuple(self):
        for hands in plain.ODD + [(), ((), (), (), ()), [()], [(), ()]]:
            self.bad(hands, None, None)

    def test_row(self):
        for row in plain.ODD + [(DEEPER,) * 13, (None,) * 13, [DEEPER]]:
            self.bad((row,), 0, None)
            self.bad(((DEEPER,), row), 1, None)
            self.bad(((), (), row), 2, None)
            self.bad((row, row), 0, None)

    def test_line(self):
        wrong = plain.ODD + [
            (), (0,), (0, 0), (0, 0, (0,), 0), [0, 0, (0,)],
            (3, 0, (0,)), (-1, 0, (0,)), (True, 0, (0,)), (None, 0, (0,)), ("0", 0, (0,)), ((0,), 0, (0,)),
            ([], 0, (0,)),
            (0, 2, (0,)), (0, -1, (0,)), (0, False, (0,)), (0, True, (0, 0)), (0, "0", (0,)), (0, (0,), (0,)),
            (0, [], (0,)), (0, {}, (0,)),
            (0, 0, 0), (0, 0, ()), (0, 0, (0, 0)), (0, 0, [0]), (0, 0, (3,)), (0, 0, (-1,)), (0, 0, (True,)),
            (0, 0, (None,)), (0, 0, None), (0, 0, ("0",)), (0, 0, ((0,),)), (0, 0, ([],)),
            (0, 1, (0,)), (0, 1, (0, 1, 2)), (0, 1, (0, 3)), (0, 1, (0, True)), (0, 1, 0),
            (0, None, 1), (0, None, ()), (0, None, (0,)), (0, None, (1, 2)), (0, None, (3,)), (0, None, (True,)),
            (0, None, [1]), (1, None, (False,)), (0, None, None), (0, None, (-1,)),
        ]
        for line in wrong:
            self.bad(((line,),), 0, 0)
            self.bad(((DEEPER, line), ()), 0, 1)
            self.bad(((), (DEEPER, DEEPER, line, line)), 1, 2)

    def test_first(self):
        self.bad(((DEEPER, 5), (5,)), 0, 1)
        self.bad(((DEEPER,), None, 5), 1, None)
        self.bad((None, (5,)), 0, None)
        self.bad(((DEEPER,), (DEEPER, ()), (5,)), 1, 1)

    def test_lines_of_the_machine(self):
        self.bad((((1, 0, (0,)),),), 0, 0, machine=(1, (1,)))
        self.bad((((0, 1, (0,)),),), 0, 0, machine=(1, (1,)))
        self.bad((((0, None, (0,)),),), 0, 0, machine=(1, (1,)))
        self.assertEqual(outcomes((1, (2,)), (((0, 0, (0, 0)),),)), (((0, 0, 0),),))


class TooDeep(unittest.TestCase):
    def too_deep(self, machine, hands):
        wishes = tuple(() for _ in hands)
        moments = tuple(0 for _ in hands)
        for call in (lambda: outcomes(machine, hands), lambda: standing(machine, hands, moments),
                     lambda: sure_terms(machine, hands, 0),
                     lambda: obeys(machine, hands, wishes, (0,) * machine[0]),
                     lambda: is_sturdy(machine, hands, 1, wishes),
                     *[lambda call=call: call(machine, hands, wishes) for call in JUDGES]):
            with self.subTest(hands=hands), self.assertRaises(TooMany) as caught:
                call()
            self.assertEqual(caught.exception.most, 8)
        self.assertEqual(run_weaving(machine, hands, ()), tuple(range(machine[0])))
        self.assertFalse(shows_harm(machine, hands, wishes, ()))
        self.assertEqual(Weaver(machine, hands).holds, tuple(range(machine[0])))
        self.assertEqual(read_hands(write_hands(machine, hands)), (machine, hands))

    def not_too_deep(self, machine, hands):
        wishes = tuple(() for _ in hands)
        self.assertEqual(outcomes(machine, hands), plain.all_standing(machine, hands)[tuple(map(len, hands))])
        self.assertTrue(keeps(machine, hands, wishes))

    def test_one_hand(self):
        self.not_too_deep(MACHINE, ((DEEPER,) * 7,))
        self.too_deep(MACHINE, ((DEEPER,) * 8,))
        self.too_deep(MACHINE, ((DEEPER,) * 12,))

    def test_more_hands(self):
        self.not_too_deep(MACHINE, ((DEEPER,) * 4, (DEEPER,) * 3))
        self.too_deep(MACHINE, ((DEEPER,) * 4, (DEEPER,) * 4))
        self.too_deep(MACHINE, ((DEEPER,) * 3, (DEEPER,) * 3, (DEEPER,) * 2))

    def test_overwritten(self):
        self.too_deep(MACHINE, ((DEEPER,) * 8 + ((0, None, (1,)),),))
        self.not_too_deep(MACHINE, ((DEEPER,) * 7 + ((0, None, (1,)), DEEPER),))

    def test_copies_are_no_deeper(self):
        back = (1, None, (0,))
        forth = (0, None, (1,))
        self.not_too_deep(MACHINE, ((DEEPER,) * 7 + (back, forth, back),))
        self.too_deep(MACHINE, ((DEEPER,) * 7 + (back, (2, 0, (1,))),))

    def test_in_some_weaving_only(self):
        # Each row by itself is shallow, and so are most weavings.
        ping = (1, 0, (0,))
        pong = (0, 0, (1,))
        self.too_deep(MACHINE, ((ping,) * 4, (pong,) * 4))
        self.not_too_deep(MACHINE, ((ping,) * 4, (pong,) * 3))

    def test_deepest_part(self):
        self.too_deep(MACHINE, ((DEEPER,) * 7 + ((2, 1, (1, 0)),),))
        self.not_too_deep(MACHINE, ((DEEPER,) * 6 + ((2, 1, (1, 0)),),))

    def test_run_weaving_counts_its_lines(self):
        hands = ((DEEPER,) * 12, (DEEPER,) * 4)
        self.assertEqual(run_weaving(MACHINE, hands, (0,) * 7), plain.run(MACHINE, hands, (0,) * 7))
        self.assertEqual(run_weaving(MACHINE, hands, (0, 1) * 3), plain.run(MACHINE, hands, (0, 1) * 3))
        for weaving in ((0,) * 8, (0, 1) * 4, (1, 1, 1, 1, 0, 0, 0, 0, 0)):
            with self.subTest(weaving=weaving), self.assertRaises(TooMany) as caught:
                run_weaving(MACHINE, hands, weaving)
            self.assertEqual(caught.exception.most, 8)
        # What is overwritten since counts, and so does the deeper one of two parts.
        for last in ((0, None, (1,)), (0, 1, (1, 2))):
            with self.assertRaises(TooMany):
                run_weaving(MACHINE, ((DEEPER,) * 8 + (last,),), (0,) * 9)
        for last in ((2, 1, (1, 0)), (2, 1, (0, 1)), (2, 0, (0,))):
            with self.assertRaises(TooMany):
                run_weaving(MACHINE, ((DEEPER,) * 7 + (last,),), (0,) * 8)


if __name__ == "__main__":
    unittest.main()
