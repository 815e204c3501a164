"""Point 1: which of more errors is raised, for every function; answers are the same again, and no argument changes."""

import copy
import unittest
from itertools import product

from tests.plainsearch import chain
from weavelines.benches import Weaver
from weavelines.counts import count_weavings, right_share, right_weavings
from weavelines.dealings import obeys, own_cells
from weavelines.errors import (BadDealing, BadHands, BadLine, BadMachine, BadMoments, BadNumber, BadString, BadTerm,
                               BadWeaving, BadWishes, NoDealing, TooMany, WeaveError)
from weavelines.handtexts import read_hands, read_term, write_hands
from weavelines.judges import harm, keeps, shows_harm
from weavelines.losses import can_be_sturdy, is_sturdy, sturdy_rows
from weavelines.needs import dealing_told, needed, needed_rows
from weavelines.searches import can_be_woven, can_do, dealings, fewest_lines, least_cells, woven_rows
from weavelines.terms import term_text
from weavelines.weavings import outcomes, run_weaving, standing, sure_terms

DEEP = (((0, 0, (0,)),) * 8, ())
PARTS = (((0, chain(0, 0, 8)), (1, chain(1, 1, 6))), ())

# Arguments, each as a right value, wrong ones, and the error for these. Together the right ones are too much.
MACHINE = ((4, (1, 1)), [None, True, (4,), (0, (1,)), (4, (3,)), "machine"], BadMachine)
HANDS = (DEEP, [None, (), (None,), (((0, 0, (4,)),),), True, [()]], BadHands)
WISHES = ((((3, 3),), ()), [None, ((),), ((), None), ((), ((0, 4),)), {}], BadWishes)
FREE_WISHES = (PARTS, [None, (), (None,), (((0, 4),),), 0, "wishes"], BadWishes)
# Nothing lets two hands have these, and their parts are too many.
VAIN_WISHES = ((PARTS[0], ((0, (0, 0)),)), FREE_WISHES[1], BadWishes)
MANY = (1, [None, 0, 4, True, "1", (1,)], BadNumber)
WEAVING = ((0,) * 8, [None, (0,) * 9, (1,), (True,), [0], 0], BadWeaving)
MOMENTS = ((8, 0), [None, (9, 0), (0,), (True, 0), [0, 0], 0], BadMoments)
HAND = (0, [None, 2, -1, True, (0,), "0"], BadWeaving)
DEALING = ((0, 1, 0, ("common", 3)), [None, (0, 0, 0), (0, 0, 0, 3), (0, 0, 0, ("common", 4)), "0000"], BadDealing)
OWNER = (2, [None, 3, -1, True, (0,), "0"], BadDealing)
LENGTHS = ((1, 2), [None, (), (13,), (True,), [1], 1], BadNumber)
TERM = ((0, 3), [None, 4, True, (0,), "c0", [0, 3]], BadTerm)
TEXT = ("f0(c3)", [None, 0, True, ("f0(c3)",), ["c0"]], BadString)
WRONG_TERM = ("f0(c4)", TEXT[1], BadString)
WRONG_HANDS = ("cells 3", TEXT[1], BadString)

# Each function, its arguments, and the error that is raised if all these are right, None for none.
CALLS = [
    (run_weaving, [MACHINE, HANDS, WEAVING], TooMany),
    (standing, [MACHINE, HANDS, MOMENTS], TooMany),
    (outcomes, [MACHINE, HANDS], TooMany),
    (sure_terms, [MACHINE, HANDS, HAND], TooMany),
    (term_text, [MACHINE, TERM], None),
    (keeps, [MACHINE, HANDS, WISHES], TooMany),
    (harm, [MACHINE, HANDS, WISHES], TooMany),
    (shows_harm, [MACHINE, HANDS, WISHES, (None, [], None)], None),
    (needed, [MACHINE, HANDS, WISHES], TooMany),
    (needed_rows, [MACHINE, HANDS, WISHES], TooMany),
    (dealing_told, [MACHINE, HANDS, WISHES], TooMany),
    (obeys, [MACHINE, HANDS, WISHES, DEALING], TooMany),
    (own_cells, [MACHINE, DEALING, OWNER], None),
    (can_do, [MACHINE, FREE_WISHES, DEALING], TooMany),
    (dealings, [MACHINE, FREE_WISHES], TooMany),
    (can_be_woven, [MACHINE, FREE_WISHES], TooMany),
    (woven_rows, [MACHINE, FREE_WISHES], TooMany),
    (woven_rows, [MACHINE, VAIN_WISHES], NoDealing),
    (fewest_lines, [MACHINE, FREE_WISHES], TooMany),
    (least_cells, [MACHINE, FREE_WISHES], TooMany),
    (count_weavings, [LENGTHS], None),
    (right_weavings, [MACHINE, HANDS, WISHES], TooMany),
    (right_share, [MACHINE, HANDS, WISHES], TooMany),
    (is_sturdy, [MACHINE, HANDS, MANY, WISHES], TooMany),
    (can_be_sturdy, [MACHINE, FREE_WISHES], TooMany),
    (sturdy_rows, [MACHINE, MANY, FREE_WISHES], TooMany),
    (sturdy_rows, [MACHINE, MANY, VAIN_WISHES], NoDealing),
    (read_term, [MACHINE, TEXT], None),
    (read_term, [MACHINE, WRONG_TERM], BadTerm),
    (write_hands, [MACHINE, HANDS], None),
    (read_hands, [WRONG_HANDS], BadLine),
    (Weaver, [MACHINE, HANDS], None),
]

# Hands that keep wishes, and what else is right beside them.
RIGHT_HANDS = (((0, 0, (3,)), (0, 0, (3,))), ((1, None, (3,)),))
RIGHT_WISHES = (((0, (0, 3)),), ())
RIGHT = {
    "hands": RIGHT_HANDS, "wishes": RIGHT_WISHES, "many": 1, "weaving": (0, 1), "moments": (1, 1), "hand": 0,
    "dealing": (0, 1, 1, ("common", 3)), "lengths": (1, 2), "term": (0, 3), "text": "f0(c3)", "value": (1, 0),
    "machine": (4, (1, 1)),
}


def shown(answer):
    """An answer in which equal ones are equal by their kinds, too."""
    if isinstance(answer, Weaver):
        return shown((answer.holds, answer.moments, answer.weaving))
    if isinstance(answer, tuple):
        return tuple(shown(part) for part in answer)
    return (type(answer), answer)


class Sequence(unittest.TestCase):
    def test_leftmost_of_wrong_arguments(self):
        for call, arguments, _ in CALLS:
            for wrong in product((False, True), repeat=len(arguments)):
                if any(wrong):
                    self.all_wrong(call, arguments, wrong)

    def all_wrong(self, call, arguments, wrong):
        first = wrong.index(True)
        for number, bad in enumerate(arguments[first][1]):
            values = [one[1][number % len(one[1])] if is_wrong and one[1] else one[0]
                      for one, is_wrong in zip(arguments, wrong)]
            values[first] = bad
            with self.subTest(call=call.__name__, values=values), self.assertRaises(WeaveError) as caught:
                call(*values)
            self.assertIs(type(caught.exception), arguments[first][2], (call.__name__, values))

    def test_behind_them(self):
        for call, arguments, error in CALLS:
            values = [right for right, _, _ in arguments]
            with self.subTest(call=call.__name__):
                if error is None:
                    call(*values)
                else:
                    with self.assertRaises(WeaveError) as caught:
                        call(*values)
                    self.assertIs(type(caught.exception), error)

    def test_limits(self):
        for call, arguments, error in CALLS:
            if error == TooMany:
                with self.assertRaises(TooMany) as caught:
                    call(*[right for right, _, _ in arguments])
                self.assertEqual(caught.exception.most, 8 if HANDS in arguments else 12)


class Answers(unittest.TestCase):
    def test_same_again_and_arguments_stay(self):
        for call, arguments, _ in CALLS:
            names = call.__code__.co_varnames if call != Weaver else ("machine", "hands")
            values = [RIGHT[name] for name in names[:len(arguments)]]
            if call == read_hands:
                values = [write_hands(RIGHT["machine"], RIGHT_HANDS)]
            kept = copy.deepcopy(values)
            with self.subTest(call=call.__name__):
                answer = shown(call(*values))
                self.assertEqual(shown(call(*values)), answer)
                self.assertEqual(shown(call(*kept)), answer)
                self.assertEqual(shown(tuple(values)), shown(tuple(kept)))


if __name__ == "__main__":
    unittest.main()
