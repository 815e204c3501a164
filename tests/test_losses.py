"""Point 11: is_sturdy, can_be_sturdy, sturdy_rows."""

import random
import unittest

from tests import plain, plainsearch
from tests.plainsearch import chain
from tests.test_searches import Told
from tests.test_weavings import WIDE, WIDTH_3001
from weavelines.dealings import obeys
from weavelines.errors import BadHands, BadMachine, BadNumber, BadWishes, NoDealing, TooMany
from weavelines.judges import keeps
from weavelines.losses import can_be_sturdy, is_sturdy, sturdy_rows
from weavelines.searches import can_be_woven, fewest_lines, woven_rows

MACHINE = (3, (1, 2))
DEEPER = (0, 0, (0,))
WRONG_NUMBERS = plain.ODD + [0, 4, -1, 10 ** 30, (1,), (), "1", "3", (1, 2, 3)]

# Hands of which, if up to 3 lines one behind another are lost, at some moments the cells can hold
# 3000, and 3001, unlike tuples with how many lines each hand lost last.
BROAD = (4, (1, 2))
LOSSY_3000 = (((1, None, (2,)), (0, None, (3,)), (1, None, (2,)), (0, None, (3,)), (3, 1, (3, 2)), (1, 1, (1, 2)),
               (1, 1, (0, 2)), (1, 1, (2, 2))),
              ((1, None, (3,)), (2, None, (1,)), (1, 0, (3,)), (0, None, (3,)), (0, 1, (0, 1)), (0, None, (2,)),
               (2, None, (3,))))
LOSSY_3001 = (((1, 0, (2,)), (3, 0, (3,)), (0, 0, (2,)), (3, None, (2,)), (2, 0, (3,)), (0, None, (1,)),
               (1, None, (2,))),
              ((1, None, (2,)), (1, 0, (2,)), (2, 0, (1,)), (2, 0, (0,)), (1, None, (3,)), (1, 0, (0,))))


def repeated_line(chance, machine, many):
    """A line that is likely to come as often as it must if so many may be lost."""
    return (plain.some_line(chance, machine),) * chance.choice((1, many, many + 1, many + 1))


def some_row(chance, machine, many, longest):
    row = ()
    while len(row) < longest and chance.random() < 0.85:
        row += repeated_line(chance, machine, many)
    return row[:longest]


def likely_wishes(chance, machine, hands, many):
    """Wishes for what the cells hold behind some weaving, and mostly behind all."""
    states = plain.lossy_states(machine, hands, many)
    wishes = []
    for hand, row in enumerate(hands):
        found = [held for weaving, _, held in states if weaving.count(hand) == len(row)]
        sure = [cell for cell in range(machine[0]) if len({held[cell] for held in found}) == 1]
        cells = [cell for cell in range(machine[0]) if chance.random() < (0.6 if cell in sure else 0.1)]
        last = chance.choice(found)
        wishes.append(tuple((cell, last[cell]) for cell in cells))
    return tuple(wishes)


class IsSturdy(unittest.TestCase):
    def test_against_all(self):
        chance = random.Random(111)
        answers = []
        for _ in range(600):
            machine = (chance.randint(1, 4), tuple(chance.randint(1, 2) for _ in range(chance.randint(1, 2))))
            many = chance.choice((1, 1, 2, 3))
            longest = chance.choice(((6,), (4, 2), (2, 4), (3, 2), (1, 2, 2), (2, 0, 2), (0, 4)))
            hands = tuple(some_row(chance, machine, many, most) for most in longest)
            wishes = likely_wishes(chance, machine, hands, many)
            for tried in (many, 1, 3):
                told = plain.sturdy(machine, hands, tried, wishes)
                with self.subTest(machine=machine, hands=hands, tried=tried, wishes=wishes):
                    self.assertIs(is_sturdy(machine, hands, tried, wishes), told)
                    if told:
                        self.assertTrue(keeps(machine, hands, wishes))
                answers.append((len(hands), tried, told, any(hands) and any(wishes)))
        for many in (1, 2, 3):
            for told in (True, False):
                self.assertGreater(len([one for one in answers if one[0] == many and one[2:] == (told, True)]), 30)
                self.assertGreater(len([one for one in answers if one[1] == many and one[2:] == (told, True)]), 12)

    def test_so_many_one_behind_another(self):
        sets = (0, 0, (1,))
        wishes = (((0, (0, 1)),),)
        for times in range(1, 6):
            for many in (1, 2, 3):
                self.assertIs(is_sturdy(MACHINE, ((sets,) * times,), many, wishes), times > many)
        # No more than so many one behind another, however many in all.
        other = (2, 0, (1,))
        row = (sets, other, other, sets, other, other)
        wishes = (((0, (0, 1)),), ())
        self.assertIs(is_sturdy(MACHINE, (row, ()), 1, wishes), False)
        row = (sets, sets, other, other)
        self.assertIs(is_sturdy(MACHINE, (row, ()), 1, (((0, (0, 1)), (2, (0, 1))), ())), True)
        self.assertIs(is_sturdy(MACHINE, (row, ()), 2, (((0, (0, 1)),), ())), False)

    def test_of_each_row(self):
        # What another hand lost in between does not count, and each hand may lose.
        hands = (((0, 0, (1,)),) * 2, ((2, 0, (1,)),) * 2)
        wishes = (((0, (0, 1)),), ((2, (0, 1)),))
        self.assertIs(is_sturdy(MACHINE, hands, 1, wishes), True)
        self.assertIs(is_sturdy(MACHINE, hands, 2, wishes), False)
        self.assertIs(is_sturdy(MACHINE, (hands[0], hands[1][:1]), 1, wishes), False)
        self.assertIs(is_sturdy(MACHINE, (hands[0], hands[1][:1]), 1, (wishes[0], ())), True)

    def test_lost_lines_count_as_done(self):
        # The wish is due also if all lines are lost.
        self.assertIs(is_sturdy(MACHINE, ((DEEPER,),), 1, (((0, (0, 0)),),)), False)
        self.assertIs(is_sturdy(MACHINE, ((DEEPER,),), 1, (((1, 1),),)), True)
        # A line that reads what it sets does more each time.
        self.assertIs(is_sturdy(MACHINE, ((DEEPER,) * 2,), 1, (((0, (0, 0)),),)), False)
        self.assertIs(is_sturdy(MACHINE, ((DEEPER,) * 2,), 1, (((0, (0, (0, 0))),),)), False)

    def test_harm_within(self):
        # At the end all is well; hand 0 is done earlier.
        hands = ((), ((0, 0, (1,)),) * 2 + ((0, None, (2,)),) * 2)
        self.assertIs(is_sturdy(MACHINE, hands, 1, ((), ((0, 2),))), True)
        self.assertIs(is_sturdy(MACHINE, hands, 1, (((0, 2),), ((0, 2),))), False)
        self.assertIs(is_sturdy(MACHINE, hands, 1, (((0, 0),), ())), False)

    def test_void(self):
        for many in (1, 2, 3):
            for hands in ((), ()), ((), (), ()), ((),):
                self.assertIs(is_sturdy(MACHINE, hands, many, ((),) * len(hands)), True)
                self.assertIs(is_sturdy(MACHINE, hands, many, (((0, 0), (2, 2)),) * len(hands)), True)
                self.assertIs(is_sturdy(MACHINE, hands, many, ((),) * (len(hands) - 1) + (((0, 1),),)), False)
            self.assertIs(is_sturdy(MACHINE, ((DEEPER,) * 7,), many, ((),)), True)

    def test_arguments_stay(self):
        hands, wishes = ((DEEPER,) * 2, ()), (((1, 1),), ())
        self.assertEqual(is_sturdy(MACHINE, hands, 2, wishes), is_sturdy(MACHINE, hands, 2, wishes))
        self.assertEqual((hands, wishes), (((DEEPER,) * 2, ()), (((1, 1),), ())))


class TooDeepOrWide(unittest.TestCase):
    def raised(self, most, *arguments):
        with self.assertRaises(TooMany) as caught:
            is_sturdy(*arguments)
        self.assertEqual(caught.exception.most, most)

    def test_deep(self):
        for many in (1, 2, 3):
            self.raised(8, MACHINE, ((DEEPER,) * 8,), many, ((),))
            self.raised(8, MACHINE, ((DEEPER,) * 4, (DEEPER,) * 4), many, (((1, 0),), ()))
            self.raised(8, MACHINE, ((DEEPER,) * 8 + ((0, None, (1,)),),), many, ((),))

    def test_deep_by_losses_alone(self):
        # In no weaving of these is anything too deep; if the copy is lost it is, and that is gone on with.
        hands = ((DEEPER,) * 7 + ((0, None, (1,)), (0, 0, (0,)), (2, None, (0,)), (2, None, (0,))),)
        self.assertIs(is_sturdy(MACHINE, hands, 1, ((),)), True)
        self.assertIs(is_sturdy(MACHINE, hands, 1, (((2, (0, 1)),),)), False)
        self.assertIs(is_sturdy(MACHINE, hands, 1, (((1, 1),),)), True)

    def test_wide(self):
        for hands, most in ((LOSSY_3000, 3000), (LOSSY_3001, 3001)):
            self.assertEqual(max(plain.lossy_widths(BROAD, hands, 3).values()), most)
            self.assertLess(max(plain.lossy_widths(BROAD, hands, 2).values()), 3000)
            self.assertIs(is_sturdy(BROAD, hands, 2, ((), ())), True)
        self.assertIs(is_sturdy(BROAD, LOSSY_3000, 3, ((), ())), True)
        self.assertIs(is_sturdy(BROAD, LOSSY_3000, 3, (((1, 1),), ())), False)
        self.raised(3000, BROAD, LOSSY_3001, 3, ((), ()))
        self.raised(3000, BROAD, LOSSY_3001, 3, ((), ((1, 1),)))
        # A harm that shows at once doesn't keep the rest from being gone through.
        self.raised(3000, BROAD, LOSSY_3001 + ((),), 3, ((), (), ((0, 1),)))
        self.raised(3000, WIDE, WIDTH_3001, 1, ((),) * len(WIDTH_3001))

    def test_deep_comes_first(self):
        deeper = LOSSY_3001[1] + ((0, 0, (0,)),) * 6
        self.raised(8, BROAD, (LOSSY_3001[0], deeper), 3, ((), ()))


def sturdy_told(machine, wishes):
    return Told(machine, wishes, plainsearch.sturdy_lines)


def some_searched(many, seed):
    """Machines and wishes of which a plain search can tell all."""
    chance = random.Random(seed)
    for _ in range(many):
        machine = (chance.randint(1, 4), tuple(chance.choice((1, 1, 2)) for _ in range(chance.randint(1, 2))))
        hands, deepest = chance.choice((1, 2, 2, 2, 3)), chance.choice((1, 2, 2, 3))
        wishes = plainsearch.some_free_wishes(chance, machine, hands, deepest)
        if len(plainsearch.looked_at(machine, wishes)) <= 130:
            try:
                yield machine, wishes, sturdy_told(machine, wishes)
            except OverflowError:
                pass


class Searches(unittest.TestCase):
    def test_against_plain_searches(self):
        seen = []
        for machine, wishes, told in some_searched(320, 112):
            seen.append(told.fewest)
            with self.subTest(machine=machine, wishes=wishes):
                self.assertIs(can_be_sturdy(machine, wishes), told.fewest is not None)
                for many in (1, 2, 3):
                    self.rows(machine, many, wishes, told)
        self.assertGreater(len(set(seen)), 5)
        self.assertGreater(seen.count(None), 40)

    def rows(self, machine, many, wishes, told):
        if told.fewest is None:
            self.assertRaises(NoDealing, sturdy_rows, machine, many, wishes)
        elif told.longest * (many + 1) > 12:
            self.too_many(12, sturdy_rows, machine, many, wishes)
        else:
            rows = sturdy_rows(machine, many, wishes)
            self.assertEqual(len(rows), len(wishes))
            self.assertLessEqual(max(map(len, rows)), 12)
            self.assertTrue(any(obeys(machine, rows, wishes, dealing) for dealing in told.dealings))
            for tried in range(1, many + 1):
                self.assertTrue(is_sturdy(machine, rows, tried, wishes))
            if sum(map(len, rows)) < 5:
                self.assertTrue(plain.sturdy(machine, rows, many, wishes))

    def too_many(self, most, call, *arguments):
        with self.assertRaises(TooMany) as caught:
            call(*arguments)
        self.assertEqual(caught.exception.most, most)

    def test_larger_wishes_of_one_hand(self):
        chance = random.Random(113)
        answers = []
        while len(answers) < 500:
            machine = (chance.choice((2, 3, 3, 4)), chance.choice(((1,), (1, 2), (2,), (1, 1), (1, 1, 2))))
            terms = plainsearch.some_shared_terms(chance, machine, chance.randint(2, 9))
            cells = sorted(chance.sample(range(machine[0]), chance.randint(1, machine[0])))
            wished = tuple((cell, chance.choice(terms[-6:])) for cell in cells)
            if len(plainsearch.parts_wished(wished)) > 9:
                continue
            told = plainsearch.shortest_alone(machine, wished, range(machine[0]), True)
            with self.subTest(machine=machine, wished=wished):
                self.assertIs(can_be_sturdy(machine, (wished,)), told is not None)
                for many in (1, 2, 3):
                    if told is None:
                        self.assertRaises(NoDealing, sturdy_rows, machine, many, (wished,))
                    elif told * (many + 1) > 12:
                        self.too_many(12, sturdy_rows, machine, many, (wished,))
                    else:
                        row, = sturdy_rows(machine, many, (wished,))
                        self.assertTrue(is_sturdy(machine, (row,), many, (wished,)))
            answers.append(told)
        self.assertGreater(len(set(answers)), 7)
        self.assertGreater(answers.count(None), 20)

    def test_against_all_short_rows(self):
        # No dealing is looked at here: only what rows, all of them up to a length, surely lead to.
        for machine, hands, most, many, terms, at_once in (
                ((2, (1,)), 1, 5, 1, (0, 1, (0, 0), (0, 1), (0, (0, 1))), 2),
                ((2, (1,)), 1, 4, 2, (0, 1, (0, 0), (0, 1), (0, (0, 1))), 2),
                ((2, (1,)), 2, 3, 1, (0, 1, (0, 0), (0, 1)), 2),
                ((2, (1,)), 2, 4, 1, (0, 1, (0, 0), (0, 1)), 1),
                ((1, (1, 1)), 2, 5, 1, (0, (0, 0), (1, 0)), 1),
                ((3, (1,)), 2, 3, 1, (0, 1, 2, (0, 1), (0, 2)), 1)):
            found = {}
            for total in range(most + 1):
                for rows in plainsearch.all_hands(machine, hands, total):
                    found.setdefault(surely_held(machine, rows, many), total)
            self.short_rows(machine, hands, most, many, terms, at_once, found)

    def short_rows(self, machine, hands, most, many, terms, at_once, found):
        chance = random.Random(114)
        answers = []
        for _ in range(100):
            cells = [sorted(chance.sample(range(machine[0]), chance.randint(0, at_once))) for _ in range(hands)]
            wishes = tuple(tuple((cell, chance.choice(terms)) for cell in row) for row in cells)
            told = [total for sure, total in found.items()
                    if all(held[cell] == term for held, wished in zip(sure, wishes) for cell, term in wished)]
            with self.subTest(machine=machine, wishes=wishes, many=many):
                if told:
                    self.assertTrue(can_be_sturdy(machine, wishes))
                    self.assertEqual(sum(map(len, sturdy_rows(machine, many, wishes))), min(told))
                elif can_be_sturdy(machine, wishes):
                    self.assertGreater(sum(map(len, sturdy_rows(machine, many, wishes))), most)
            answers.append(min(told, default=None))
        self.assertGreater(len(set(answers)), 1)


def surely_held(machine, hands, many):
    """For each hand, for each cell, the term that it holds whenever the hand is done, None for no such."""
    found = [[set() for _ in range(machine[0])] for _ in hands]
    for weaving, _, held in plain.lossy_states(machine, hands, many):
        for hand, row in enumerate(hands):
            if weaving.count(hand) == len(row):
                for cell, term in enumerate(held):
                    found[hand][cell].add(term)
    return tuple(tuple(list(terms)[0] if len(terms) == 1 else None for terms in row) for row in found)


class Rows(unittest.TestCase):
    def test_each_line_so_many_times_and_once_more(self):
        wishes = (((0, (0, 1)),), ((2, (0, 1)),))
        for many in (1, 2, 3):
            rows = sturdy_rows(MACHINE, many, wishes)
            self.assertIs(is_sturdy(MACHINE, rows, many, wishes), True)
            self.assertIs(plain.sturdy(MACHINE, rows, 1, wishes), True)
            self.assertEqual({type(part) for row in (rows, *rows) for part in row}, {tuple})
            self.assertEqual(rows, sturdy_rows(MACHINE, many, wishes))
        self.assertEqual(wishes, (((0, (0, 1)),), ((2, (0, 1)),)))

    def test_void(self):
        for many in (1, 2, 3):
            for wishes in (((),), ((), ()), ((), (), ()), (((0, 0), (1, 1)), ((1, 1),))):
                self.assertEqual(sturdy_rows(MACHINE, many, wishes), ((),) * len(wishes))
                self.assertIs(can_be_sturdy(MACHINE, wishes), True)

    def test_woven_but_not_sturdy(self):
        # A line must read the cell that it sets if there is no other.
        for machine, wishes in (((1, (1,)), (((0, (0, 0)),),)), ((1, (2,)), (((0, (0, 0, 0)),),)),
                                ((2, (1,)), (((0, (0, 0)), (1, (0, 1))),)),
                                ((2, (1,)), (((0, (0, 0)),), ((1, (0, 1)),)))):
            self.assertIs(can_be_woven(machine, wishes), True)
            self.assertIs(can_be_sturdy(machine, wishes), False)
            for many in (1, 2, 3):
                self.assertRaises(NoDealing, sturdy_rows, machine, many, wishes)

    def test_longer_than_woven(self):
        # With a cell more there are sturdy ones, of a line more.
        wishes = (((0, (0, 0)), (1, 1)),)
        self.assertEqual(fewest_lines(MACHINE, wishes), 1)
        self.assertEqual([len(row) for row in sturdy_rows(MACHINE, 1, wishes)], [4])
        self.assertFalse(is_sturdy(MACHINE, woven_rows(MACHINE, wishes), 1, wishes))

    def test_lengths(self):
        # So many lines the row takes if each comes once: to the limit, and beyond it.
        machine = (2, (1,))
        for lines in range(1, 8):
            wishes = (((lines % 2, chain(0, 0, lines + 1)),),)
            self.assertIs(can_be_sturdy(machine, wishes), True)
            for many in (1, 2, 3):
                if lines * (many + 1) <= 12:
                    self.assertEqual(len(sturdy_rows(machine, many, wishes)[0]), lines * (many + 1))
                else:
                    with self.assertRaises(TooMany) as caught:
                        sturdy_rows(machine, many, wishes)
                    self.assertEqual(caught.exception.most, 12)


class TooMuch(unittest.TestCase):
    def calls(self, machine, wishes):
        yield lambda: can_be_sturdy(machine, wishes)
        for many in (1, 2, 3):
            yield lambda: sturdy_rows(machine, many, wishes)

    def raised(self, most, machine, wishes):
        for call in self.calls(machine, wishes):
            with self.assertRaises(TooMany) as caught:
                call()
            self.assertEqual(caught.exception.most, most)

    def test_parts(self):
        machine = (4, (1, 1))
        for wishes in ((((0, chain(0, 3, 8)), (1, chain(1, 1, 5))),), ((), ((0, chain(0, 3, 8)), (1, chain(1, 1, 5))))):
            self.raised(12, machine, wishes)
        wishes = (((0, chain(0, 3, 8)), (1, chain(1, 1, 4))),)
        self.assertIs(can_be_sturdy(machine, wishes), True)

    def test_dealings(self):
        machine = (4, (1,))
        row, shorter = ((0, chain(0, 3, 6)),), ((1, chain(0, 3, 5)),)
        self.assertEqual(len(plainsearch.looked_at(machine, (row, row))), 4096)
        self.assertEqual(len(plainsearch.looked_at(machine, (row, shorter))), 2401)
        self.assertIs(can_be_sturdy(machine, (row, shorter)), False)
        with self.assertRaises(TooMany) as caught:
            can_be_sturdy(machine, (row, row))
        self.assertEqual(caught.exception.most, 3000)

    def test_no_dealing_comes_ahead(self):
        machine = (4, (1, 1))
        thirteen = ((0, chain(0, 0, 8)), (1, chain(1, 1, 5)))
        shared = (((0, chain(0, 3, 6)), (1, 1)), ((0, chain(0, 3, 6)), (1, 2)))
        # These could be woven, but every cell is wished something that is made of its own atom.
        tight = (((0, chain(0, 0, 8)), (1, chain(1, 1, 5)), (2, chain(1, 2, 2)), (3, (0, 3))),)
        self.assertIs(can_be_woven(machine, (tight[0][:1] + tight[0][2:],)), True)
        for most, wishes in ((12, (thirteen, ((0, 0),))), (3000, shared), (12, tight)):
            with self.assertRaises(TooMany) as caught:
                can_be_sturdy(machine, wishes)
            self.assertEqual(caught.exception.most, most)
            for many in (1, 2, 3):
                self.assertRaises(NoDealing, sturdy_rows, machine, many, wishes)

    def test_a_bush_of_unlike_parts(self):
        def bush(depth, number):
            if depth == 1:
                return number % 4
            return (number % 3, bush(depth - 1, 2 * number), bush(depth - 1, 2 * number + 1 + number // 7))
        wishes = (((0, bush(8, 1)), (1, bush(7, 5))), ((2, 2),))
        self.assertRaises(NoDealing, sturdy_rows, (4, (2, 2, 2)), 1, wishes)


class Errors(unittest.TestCase):
    def test_bad_number(self):
        for many in WRONG_NUMBERS:
            with self.subTest(many=many), self.assertRaises(BadNumber):
                is_sturdy(MACHINE, ((DEEPER,) * 8,), many, None)
            with self.subTest(many=many), self.assertRaises(BadNumber):
                sturdy_rows(MACHINE, many, None)

    def test_bad_machine(self):
        for machine in plain.ODD + [(), (0, (1,)), (5, (1,)), (2, (3,)), (2, ())]:
            for call in (lambda: is_sturdy(machine, None, None, None), lambda: can_be_sturdy(machine, None),
                         lambda: sturdy_rows(machine, None, None)):
                with self.assertRaises(BadMachine):
                    call()

    def test_bad_hands(self):
        for hands, hand, index in ((None, None, None), ((), None, None), ((None,), 0, None), (((), (5,)), 1, 0),
                                   (((DEEPER,) * 13,), 0, None)):
            with self.assertRaises(BadHands) as caught:
                is_sturdy(MACHINE, hands, None, None)
            self.assertEqual((caught.exception.hand, caught.exception.index), (hand, index))

    def test_bad_wishes(self):
        rows = [(wishes, None, None) for wishes in plain.ODD + [(), ((), (), (), ())]]
        rows += [((row, ()), 0, None) for row in plain.ODD]
        rows += [(((), (wish,)), 1, 0) for wish in plain.ODD + [(), (0,), (3, 0), (0, 3), (0, chain(0, 0, 9))]]
        rows += [(((), ((1, 1), (1, 1))), 1, 1)]
        for wishes, hand, index in rows:
            for call in (lambda: is_sturdy(MACHINE, ((DEEPER,) * 8, ()), 1, wishes),
                         lambda: can_be_sturdy(MACHINE, wishes), lambda: sturdy_rows(MACHINE, 1, wishes)):
                with self.subTest(wishes=wishes), self.assertRaises(BadWishes) as caught:
                    call()
                self.assertEqual((caught.exception.hand, caught.exception.index), (hand, index))
        for wishes in (((),), ((), (), ())):
            with self.assertRaises(BadWishes):
                is_sturdy(MACHINE, ((), ()), 1, wishes)


if __name__ == "__main__":
    unittest.main()
