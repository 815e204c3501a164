"""Points 8 and 9: can_do, dealings, can_be_woven, woven_rows, fewest_lines, least_cells."""

import random
import unittest
from itertools import product

from tests import plain, plainsearch
from tests.plainsearch import chain
from tests.test_dealings import WRONG_PLACES
from weavelines.dealings import obeys
from weavelines.errors import BadDealing, BadMachine, BadWishes, NoDealing, TooMany
from weavelines.judges import keeps
from weavelines.searches import can_be_woven, can_do, dealings, fewest_lines, least_cells, woven_rows

MACHINE = (3, (1, 2))
# All functions of machine and wishes alone, and can_do with a dealing that is right for any number of hands.
SEARCHES = (dealings, can_be_woven, woven_rows, fewest_lines, least_cells)
ALL = SEARCHES + (lambda machine, wishes: can_do(machine, wishes, (0,) * machine[0]),)


def free_wishes(many, seed):
    """Machines and wishes of which a plain search can tell all."""
    chance = random.Random(seed)
    for _ in range(many):
        machine = (chance.randint(1, 3), tuple(chance.choice((1, 1, 2)) for _ in range(chance.randint(1, 2))))
        hands, deepest = chance.choice((1, 2, 2, 2, 3)), chance.choice((1, 2, 2, 3))
        yield machine, plainsearch.some_free_wishes(chance, machine, hands, deepest)


class Told:
    """What plain searches tell of wishes, if rows are of the lines that lines_of tells.

    That is the dealings in which all can, the fewest lines in all, and how
    long the longest row must be then.
    """

    def __init__(self, machine, wishes, lines_of=plainsearch.all_lines):
        self.dealings = []
        self.fewest = None
        lengths = {}
        sizes = []
        for dealing in plainsearch.looked_at(machine, wishes):
            found = []
            for hand, wished in enumerate(wishes):
                key = (hand, tuple(place if isinstance(place, tuple) else place == hand for place in dealing))
                if key not in lengths:
                    lengths[key] = plainsearch.shortest(machine, wished, dealing, hand, lines_of)
                found.append(lengths[key])
            if None not in found:
                self.dealings.append(dealing)
                sizes.append((sum(found), max(found)))
        if sizes:
            self.fewest, self.longest = min(sizes)


class AgainstPlainSearches(unittest.TestCase):
    def test_can_do(self):
        chance = random.Random(81)
        answers = []
        for machine, wishes in free_wishes(400, 82):
            looked_at = plainsearch.looked_at(machine, wishes)
            pool = [("common", plainsearch.some_term(chance, machine, 3)) for _ in range(3)]
            for dealing in [chance.choice(looked_at), tuple(chance.choice(places + tuple(pool)) for places in
                                                            [chance.choice(looked_at) for _ in range(machine[0])])]:
                try:
                    told = [plainsearch.shortest(machine, wished, dealing, hand) for hand, wished in enumerate(wishes)]
                except OverflowError:
                    continue
                answers += told
                with self.subTest(machine=machine, wishes=wishes, dealing=dealing):
                    self.assertEqual(can_do(machine, wishes, dealing), tuple(length is not None for length in told))
        self.assertGreater(answers.count(None), 100)
        self.assertGreater(len(answers) - answers.count(None) - answers.count(0), 60)

    def test_dealings_and_rows(self):
        seen = []
        for machine, wishes in free_wishes(400, 83):
            try:
                told = Told(machine, wishes)
            except OverflowError:
                continue
            seen.append(told.fewest)
            with self.subTest(machine=machine, wishes=wishes):
                self.assertEqual(dealings(machine, wishes), tuple(told.dealings))
                self.assertIs(can_be_woven(machine, wishes), told.dealings != [])
                self.assertEqual(fewest_lines(machine, wishes), told.fewest)
                self.rows(machine, wishes, told.fewest)
        self.assertGreater(len(set(seen)), 5)
        self.assertGreater(seen.count(None), 30)

    def rows(self, machine, wishes, fewest):
        if fewest is None:
            self.assertRaises(NoDealing, woven_rows, machine, wishes)
            return
        rows = woven_rows(machine, wishes)
        self.assertEqual(len(rows), len(wishes))
        self.assertEqual(sum(map(len, rows)), fewest)
        if fewest < 7:
            self.assertIsNone(plain.least_harm(machine, rows, wishes))
            self.assertTrue(keeps(machine, rows, wishes))

    def test_larger_wishes_of_one_hand(self):
        chance = random.Random(86)
        answers = []
        while len(answers) < 1500:
            machine = (chance.choice((2, 3, 3, 4)), chance.choice(((1,), (1, 2), (2,), (1, 1), (1, 1, 2))))
            terms = plainsearch.some_shared_terms(chance, machine, chance.randint(2, 9))
            cells = sorted(chance.sample(range(machine[0]), chance.randint(1, machine[0])))
            wished = tuple((cell, chance.choice(terms[-6:])) for cell in cells)
            if len(plainsearch.parts_wished(wished)) > 9:
                continue
            dealing = tuple(("common", cell) if chance.random() < 0.1 else 0 for cell in range(machine[0]))
            told = plainsearch.shortest_alone(machine, wished, range(machine[0]))
            own = [cell for cell in range(machine[0]) if dealing[cell] == 0]
            with self.subTest(machine=machine, wished=wished, dealing=dealing):
                self.assertEqual(fewest_lines(machine, (wished,)), told)
                self.assertEqual(can_do(machine, (wished,), dealing),
                                 (plainsearch.shortest_alone(machine, wished, own) is not None,))
            answers.append(told)
        self.assertGreater(len(set(answers)), 8)

    def test_dealings_are_kept_to(self):
        for machine, wishes in free_wishes(60, 84):
            for dealing in dealings(machine, wishes):
                self.assertEqual(can_do(machine, wishes, dealing), (True,) * len(wishes))


class AgainstAllShortRows(unittest.TestCase):
    """No dealing is looked at here: only what rows, all of them up to a length, surely lead to."""

    def check(self, machine, many, most, terms, wished_at_once):
        found = {}
        for total in range(most + 1):
            for hands in plainsearch.all_hands(machine, many, total):
                found.setdefault(plainsearch.surely_held(machine, hands), total)
        chance = random.Random(91)
        answers = []
        for _ in range(120):
            cells = [sorted(chance.sample(range(machine[0]), chance.randint(0, wished_at_once))) for _ in range(many)]
            wishes = tuple(tuple((cell, chance.choice(terms)) for cell in row) for row in cells)
            told = min((total for sure, total in found.items() if self.has(sure, wishes)), default=None)
            answer = fewest_lines(machine, wishes)
            with self.subTest(machine=machine, wishes=wishes):
                self.assertEqual(can_be_woven(machine, wishes), answer is not None)
                if told is None:
                    self.assertTrue(answer is None or answer > most)
                else:
                    self.assertEqual(answer, told)
            answers.append(told)
        self.assertGreaterEqual(len(set(answers)), 3)

    def has(self, sure, wishes):
        return all(held[cell] == term for held, wished in zip(sure, wishes) for cell, term in wished)

    def test_two_cells(self):
        terms = (0, 1, (0, 0), (0, 1), (0, (0, 1)))
        self.check((2, (1,)), 1, 5, terms, 2)
        self.check((2, (1,)), 2, 4, terms, 2)
        self.check((2, (2,)), 2, 3, (0, 1, (0, 0, 0), (0, 0, 1), (0, (0, 1, 1), 1)), 2)

    def test_three_cells(self):
        self.check((3, (1,)), 2, 3, (0, 1, 2, (0, 1), (0, 2)), 1)
        self.check((3, (1,)), 2, 3, (2, (0, 2), (0, (0, 2))), 2)

    def test_three_hands(self):
        self.check((2, (1,)), 3, 3, (1, (0, 1)), 1)
        self.check((1, (1, 1)), 3, 3, (0, (0, 0), (1, 0), (0, (1, 0))), 1)


class CanDo(unittest.TestCase):
    def test_hand_by_hand(self):
        wishes = (((0, (0, 2)),), ((1, (0, (0, 2))),), ())
        free = ("common", 2)
        self.assertEqual(can_do(MACHINE, wishes, (0, 1, free)), (True, True, True))
        self.assertEqual(can_do(MACHINE, wishes, (0, 1, 1)), (False, True, True))
        self.assertEqual(can_do(MACHINE, wishes, (1, 1, free)), (False, True, True))
        self.assertEqual(can_do(MACHINE, wishes, (2, 2, 2)), (False, False, True))
        self.assertEqual(can_do(MACHINE, wishes, (("common", (0, 2)), 1, free)), (True, True, True))
        self.assertEqual(can_do(MACHINE, wishes, (("common", 0), 1, free)), (False, True, True))
        self.assertEqual(can_do(MACHINE, wishes, (("common", (0, 2)), ("common", (0, (0, 2))), free)),
                         (True, True, True))
        self.assertEqual(can_do(MACHINE, wishes, (("common", (0, 1)), ("common", (0, (0, 2))), free)),
                         (False, False, True))

    def test_terms_that_are_no_parts(self):
        wishes = (((0, (0, 0)),),)
        self.assertEqual(can_do(MACHINE, wishes, (0, ("common", (1, 2, 2)), ("common", 1))), (True,))
        self.assertEqual(can_do(MACHINE, wishes, (("common", chain(0, 0, 8)), 0, 0)), (False,))
        self.assertEqual(can_do(MACHINE, (((0, chain(0, 0, 8)),),), (("common", chain(0, 0, 8)), 0, 0)), (False,))
        self.assertEqual(can_do(MACHINE, (((0, chain(0, 1, 8)),),), (("common", chain(0, 1, 8)), 0, 0)), (True,))

    def test_moved_out_of_the_way(self):
        # Atoms change their cells: that takes a third one.
        wishes = (((0, 1), (1, 0)),)
        self.assertEqual(can_do(MACHINE, wishes, (0, 0, 0)), (True,))
        self.assertEqual(fewest_lines(MACHINE, wishes), 3)
        self.assertEqual(can_do(MACHINE, wishes, (0, 0, ("common", 0))), (True,))
        self.assertEqual(can_do(MACHINE, wishes, (0, 0, ("common", 2))), (False,))
        self.assertEqual(can_do((2, (1,)), wishes, (0, 0)), (False,))

    def test_long_rows(self):
        # Rows may be longer than those that are arguments.
        machine = (3, (1, 1, 2))
        wishes = (((0, (1, (2, (1, 2), 2))),
                   (1, (2, (2, (0, (1, 2)), (0, (2, (1, 2), 2))), (0, (1, (2, (1, 2), 2))))),
                   (2, (1, (0, (1, 2))))),)
        self.assertEqual(can_do(machine, wishes, (0, 0, 0)), (True,))
        row, = woven_rows(machine, wishes)
        self.assertEqual(plainsearch.shortest_alone(machine, wishes[0], range(3)), 16)
        self.assertEqual(fewest_lines(machine, wishes), 16)
        self.assertEqual(len(row), 16)
        held = plain.run(machine, (row,), (0,) * 16)
        self.assertEqual(tuple(enumerate(held)), wishes[0])
        # With a cell more the parts needn't be made again and again.
        rows = woven_rows((4, (1, 1, 2)), wishes)
        self.assertTrue(keeps((4, (1, 1, 2)), rows, wishes))
        self.assertLess(len(rows[0]), 13)

    def test_fewest_among_dealings(self):
        # Whoever is given cell 3 makes its parts once; without it the row takes 16 lines.
        machine = (4, (1, 1, 2))
        wishes = ((0, (1, (2, (1, 2), 2))),
                  (1, (2, (2, (0, (1, 2)), (0, (2, (1, 2), 2))), (0, (1, (2, (1, 2), 2))))),
                  (2, (1, (0, (1, 2)))))
        self.assertEqual(plainsearch.shortest_alone(machine, wishes, range(4)), 9)
        for told in ((wishes,), (wishes, ()), ((), wishes), ((), wishes, ())):
            self.assertEqual(fewest_lines(machine, told), 9)
            self.assertEqual([len(row) for row in woven_rows(machine, told)], [9 if row else 0 for row in told])

    def test_each_its_own(self):
        rows = woven_rows((4, (1,)), (((0, chain(0, 0, 7)),), ((1, chain(0, 1, 8)),), ((2, chain(0, 2, 8)),)))
        self.assertEqual(rows, tuple(((cell, 0, (cell,)),) * many for cell, many in ((0, 6), (1, 7), (2, 7))))


class Sequence(unittest.TestCase):
    def test_first_cells_slowest(self):
        self.assertEqual(dealings((2, (1,)), ((), ())), tuple(
            (first, second) for first in (0, 1, ("common", 0)) for second in (0, 1, ("common", 1))))

    def test_hands_own_atom_wished_atoms_parts(self):
        # Two hands wish atom 3, and two wish atom 2, in cell 0, so no row has all; without the third hand:
        machine = (4, (1, 1))
        wishes = (((1, (1, 3)), (2, (0, 3))), ((2, (0, 3)), (1, (1, 3))))[:1] + (((1, (1, 3)), (2, (0, 3))),)
        free = ("common", 3)
        shared = [("common", (0, 3)), ("common", (1, 3))]
        self.assertEqual(dealings(machine, wishes), tuple(
            (first, shared[1], shared[0], free) for first in [0, 1, ("common", 0)] + shared))
        wishes = (((0, 3),), ((0, 3),))
        self.assertEqual(dealings((4, (1,)), wishes), tuple(
            (("common", 3), second, third, free)
            for second in (0, 1, ("common", 1)) for third in (0, 1, ("common", 2))))
        # For its own atom a cell is common once, also if two wish that.
        wishes = (((0, 0),), ((0, 0),))
        self.assertEqual(dealings((1, (1,)), wishes), ((("common", 0),),))

    def test_atoms_that_one_hand_wishes(self):
        self.assertEqual(dealings((2, (1,)), (((0, 1),), ())), ((0, 0), (0, ("common", 1))))
        self.assertEqual(dealings((2, (1,)), (((0, 1),), ((0, 1),))), ((("common", 1), ("common", 1)),))

    def test_by_texts(self):
        # f0(f1(c2)) comes ahead of f1(c2), and c2 is no such part: it is an atom.
        machine = (3, (1, 1))
        wishes = (((0, (0, (1, 2))),), ((1, (0, (1, 2))),))
        second = [("common", (0, (1, 2))), ("common", (1, 2))]
        told = [dealing for dealing in dealings(machine, wishes) if dealing[0] == 0]
        self.assertEqual(told, [(0, 1, ("common", 2))])
        # Where cell 0 may be set to that term alone hand 0 needs cell 3 for what is within it.
        told = [dealing[::3] for dealing in dealings((4, (1, 1)), wishes) if dealing[1:3] == (1, ("common", 2))]
        self.assertEqual(told, [(0, place) for place in [0, 1, ("common", 3)] + second] +
                         [(second[0], place) for place in (0, second[1])])
        told = [dealing[3] for dealing in dealings((4, (1, 1)), wishes) if dealing[:3] == (0, 1, ("common", 2))]
        self.assertEqual(told, [0, 1, ("common", 3)] + second)

    def test_kinds(self):
        wishes = (((0, (0, 2)),), ((1, (0, 2)),))
        self.assertIs(type(dealings(MACHINE, wishes)), tuple)
        self.assertTrue(all(type(dealing) is tuple for dealing in dealings(MACHINE, wishes)))
        self.assertIs(type(can_do(MACHINE, wishes, (0, 1, 2 - 2))), tuple)
        self.assertEqual([type(told) for told in can_do(MACHINE, wishes, (0, 1, 0))], [bool, bool])
        rows = woven_rows(MACHINE, wishes)
        self.assertEqual(rows, (((0, 0, (2,)),), ((1, 0, (2,)),)))
        self.assertEqual({type(part) for row in (rows, *rows) for part in row}, {tuple})
        self.assertIs(type(least_cells(MACHINE, wishes)), tuple)
        self.assertEqual(wishes, (((0, (0, 2)),), ((1, (0, 2)),)))
        for call in SEARCHES:
            self.assertEqual(call(MACHINE, wishes), call(MACHINE, wishes))


class Rows(unittest.TestCase):
    def test_none(self):
        for machine, wishes in (((1, (1,)), (((0, (0, 0)),), ((0, 0),))), ((1, (1,)), (((0, (0, 0)),),) * 2),
                                ((2, (1,)), (((0, 1), (1, 0)),)), ((1, (2,)), (((0, (0, 0, (0, 0, 0))),),))):
            with self.subTest(machine=machine, wishes=wishes):
                self.assertEqual(dealings(machine, wishes), ())
                self.assertIs(can_be_woven(machine, wishes), False)
                self.assertIsNone(fewest_lines(machine, wishes))
                self.assertRaises(NoDealing, woven_rows, machine, wishes)

    def test_void(self):
        for wishes in (((),), ((), ()), ((), (), ()), (((0, 0), (1, 1), (2, 2)), ((1, 1),))):
            self.assertEqual(woven_rows(MACHINE, wishes), ((),) * len(wishes))
            self.assertEqual(fewest_lines(MACHINE, wishes), 0)
            self.assertIs(can_be_woven(MACHINE, wishes), True)

    def test_common_cells_help(self):
        term = (0, (0, 1))
        wishes = (((0, term),), ((0, term),))
        rows = woven_rows(MACHINE, wishes)
        self.assertEqual(rows, (((2, 0, (1,)), (0, 0, (2,))),) * 2)
        self.assertTrue(obeys(MACHINE, rows, wishes, (("common", term), ("common", 1), ("common", (0, 1)))))


class LeastCells(unittest.TestCase):
    def test_against_dealings(self):
        seen = set()
        for machine, wishes in free_wishes(150, 85):
            named = [cell for wished in wishes for cell, _ in wished]
            named += [part for wished in wishes for part in plainsearch.parts_wished(wished) if isinstance(part, int)]
            rest = range(1 + max(named, default=0), 5)
            alone = [cells for cells in rest if self.can_alone((cells, machine[1]), wishes)] + [None]
            with self.subTest(machine=machine, wishes=wishes):
                try:
                    told = next((cells for cells in rest if dealings((cells, machine[1]), wishes)), None)
                except TooMany:
                    self.assertRaises(TooMany, least_cells, machine, wishes)
                    continue
                self.assertEqual(least_cells(machine, wishes), (told, alone[0]))
            seen.add((told, alone[0]))
        self.assertGreater(len(seen), 5)

    def can_alone(self, machine, wishes):
        """Whether some dealing lets all have their wishes, cells being common for their own atoms alone."""
        places = [list(range(len(wishes))) + [("common", cell)] for cell in range(machine[0])]
        return any(all(can_do(machine, wishes, dealing)) for dealing in product(*places))

    def test_own_number_aside(self):
        for cells in (1, 2, 3, 4):
            self.assertEqual(least_cells((cells, (1,)), (((0, (0, 0)),),)), (1, 1))
            self.assertEqual(least_cells((cells, (2,)), (((0, (0, 0, (0, 0, 0))),),)), (2, 2))
            self.assertEqual(least_cells((cells, (1,)), ((),)), (1, 1))
        self.assertEqual(fewest_lines((1, (2,)), (((0, (0, 0, (0, 0, 0))),),)), None)

    def test_no_fewer_than_the_wishes_name(self):
        self.assertEqual(least_cells((4, (1,)), (((3, 3),),)), (4, 4))
        self.assertEqual(least_cells((4, (1,)), (((0, (0, 2)),),)), (3, 3))
        self.assertEqual(least_cells((4, (1,)), (((0, 0),), ((1, (0, 1)),), ())), (2, 2))

    def test_common_cells_help(self):
        machine = (4, (1, 2))
        self.assertEqual(least_cells(machine, (((0, (0, 1)),),) * 2), (2, None))
        # Two hands, a common term on the way to both wishes.
        term = (0, 3)
        wishes = (((0, (1, term, (0, term))),), ((1, (1, term, (0, (0, term)))),))
        self.assertEqual(least_cells(machine, wishes), (4, None))
        wishes = (((0, (1, (0, 2), 2)),), ((1, (0, (0, 2))),))
        self.assertEqual(least_cells(machine, wishes), (3, 3))

    def test_common_cells_do_not_help(self):
        self.assertEqual(least_cells((4, (1,)), (((0, 1), (1, 0)),)), (3, 3))
        self.assertEqual(least_cells((2, (1,)), (((0, 0),), ((0, 1),))), (None, None))
        self.assertEqual(least_cells((1, (1,)), (((0, (0, 0)),),) * 2), (None, None))


class TooMuch(unittest.TestCase):
    def raised(self, most, call, *arguments):
        with self.assertRaises(TooMany) as caught:
            call(*arguments)
        self.assertEqual(caught.exception.most, most)

    def test_parts(self):
        machine = (4, (1, 1))
        twelve = ((0, chain(0, 0, 8)), (1, chain(1, 1, 4)))
        thirteen = ((0, chain(0, 0, 8)), (1, chain(1, 1, 5)))
        for wishes in ((twelve,), ((), twelve), (twelve, (), ((2, chain(0, 2, 5)),))):
            for call in ALL:
                call(machine, wishes)
        # The parts of all hands together are not counted, nor is a part twice.
        wishes = (twelve, ((2, chain(0, 2, 8)), (3, (0, 2))))
        self.assertEqual(can_be_woven(machine, wishes), True)
        self.assertEqual(fewest_lines(machine, (twelve + ((2, chain(0, 0, 7)), (3, 0)),)), 11)
        for wishes in ((thirteen,), ((), thirteen), (((2, 2),), thirteen, ()), (twelve + ((2, 2),),)):
            for number, call in enumerate(ALL):
                with self.subTest(wishes=wishes, number=number):
                    self.raised(12, call, machine, wishes)

    def test_parts_no_limit_for_what_is_common(self):
        # Only parts of wishes are counted, not those of a dealing's terms.
        dealing = (0, ("common", chain(0, 1, 8)), ("common", chain(1, 1, 8)), 0)
        self.assertEqual(can_do((4, (1, 1)), (((0, (0, 0)),),), dealing), (True,))

    def test_dealings(self):
        # Two hands share so many parts: so many dealings are to be looked at, on so many cells.
        for cells, shared, more, many in ((4, 4, False, 2401), (4, 5, True, 4096), (3, 11, False, 2744)):
            machine = (cells, (1, 1))
            row = ((0, chain(0, 2, min(shared, 7) + 1)),)
            if shared > 7:
                row += ((1, chain(1, 2, shared - 6)),)
            wishes = (row, row)
            self.assertEqual(len(plainsearch.looked_at(machine, wishes)), many)
            for call in (dealings, can_be_woven, fewest_lines):
                with self.subTest(cells=cells, shared=shared, call=call):
                    if more:
                        self.raised(3000, call, machine, wishes)
                    else:
                        call(machine, wishes)
            self.assertEqual(len(can_do(machine, wishes, (0,) * cells)), 2)

    def test_dealings_of_three_hands(self):
        for shared, many in ((10, 2744), (11, 3375)):
            row = ((0, chain(0, 2, 8)), (1, chain(1, 2, shared - 6)))
            wishes = (row, row, ())
            self.assertEqual(len(plainsearch.looked_at((3, (1, 1)), wishes)), many)
            if many > 3000:
                self.raised(3000, dealings, (3, (1, 1)), wishes)
            else:
                self.assertEqual(dealings((3, (1, 1)), wishes), ())

    def test_dealings_for_wished_atoms(self):
        # A cell in which two hands wish an atom, not its own, may be common for that, too.
        row = ((0, chain(0, 2, 5)),)
        for more, many in (((), 2401), (((1, 1),), 2401), (((1, 2),), 2744), (((1, 2), (3, 2)), 3136)):
            wishes = (row + more,) * 2
            self.assertEqual(len(plainsearch.looked_at((4, (1,)), wishes)), many)
            if many > 3000:
                self.raised(3000, fewest_lines, (4, (1,)), wishes)
            else:
                fewest_lines((4, (1,)), wishes)

    def test_woven_rows(self):
        # Here rows keep the wishes, so it is TooMany that is raised.
        row = ((0, chain(0, 3, 6)),)
        self.raised(3000, woven_rows, (4, (1,)), (row, row))
        self.raised(3000, woven_rows, (4, (1,)), (row, ((1, chain(0, 3, 6)),)))
        self.assertEqual(len(woven_rows((4, (1,)), (row, ((1, chain(0, 3, 5)),)))), 2)

    def test_no_dealing_comes_ahead(self):
        machine = (4, (1, 1))
        thirteen = ((0, chain(0, 0, 8)), (1, chain(1, 1, 5)))
        shared = (((0, chain(0, 3, 6)), (1, 1)), ((0, chain(0, 3, 6)), (1, 2)))
        for most, wishes in ((12, (thirteen, ((0, 0),))), (12, (thirteen, ((2, (0, 0)),))), (3000, shared),
                             (3000, (((0, chain(0, 3, 6)), (1, (0, 1)), (2, (0, 2))), ((0, chain(0, 3, 6)),)))):
            with self.subTest(wishes=wishes):
                self.assertRaises(NoDealing, woven_rows, machine, wishes)
                for call in (dealings, can_be_woven, fewest_lines):
                    self.raised(most, call, machine, wishes)
        # A bush of unlike parts takes more cells than there are.
        def bush(depth, number):
            if depth == 1:
                return number % 4
            return (number % 3, bush(depth - 1, 2 * number), bush(depth - 1, 2 * number + 1 + number // 7))
        self.assertRaises(NoDealing, woven_rows, (4, (2, 2, 2)), (((0, bush(8, 1)), (1, bush(7, 5))), ((2, 2),)))

    def test_least_cells(self):
        machine = (1, (1,))
        row = ((0, chain(0, 1, 5)),)
        self.assertEqual(least_cells((2, (1,)), (row, row)), (4, None))
        row = ((0, chain(0, 1, 6)),)
        self.raised(3000, least_cells, (2, (1,)), (row, row))
        # More cells than take part are not looked at.
        wishes = (((0, chain(0, 2, 6)),), ((1, chain(0, 2, 6)),))
        self.assertEqual(least_cells((3, (1,)), wishes), (3, 3))
        self.assertEqual(least_cells((4, (1,)), wishes), (3, 3))
        self.raised(3000, fewest_lines, (4, (1,)), wishes)
        self.assertEqual(least_cells(machine, (((0, (0, 0)),),)), (1, 1))


class Errors(unittest.TestCase):
    def test_bad_machine(self):
        for machine in plain.ODD + [(0, (1,)), (2, (3,))]:
            for call in SEARCHES:
                with self.assertRaises(BadMachine):
                    call(machine, None)
            with self.assertRaises(BadMachine):
                can_do(machine, None, None)

    def test_bad_wishes(self):
        rows = [(wishes, None, None) for wishes in plain.ODD + [(), ((), (), (), ()), [()], "01"]]
        rows += [((row,), 0, None) for row in plain.ODD + [[(0, 0)]]]
        rows += [(((), (), row), 2, None) for row in plain.ODD]
        for wish in plain.ODD + [(), (0,), (1, 1, 1), [1, 1], (3, 0), (-1, 0), (True, 0), (None, 0), (1, 3), (1, True),
                                 (1, None), (1, ()), (1, (2, 0)), (1, (0, 0, 0)), (1, chain(0, 0, 9))]:
            rows += [(((wish,), None), 0, 0), (((), ((0, 0), wish)), 1, 1)]
        rows += [((((0, 0), (0, 0)),), 0, 1), (((), ((0, 0), (2, 0), (1, 0))), 1, 2)]
        for number, (wishes, hand, index) in enumerate(rows):
            for call in SEARCHES + (lambda machine, wishes: can_do(machine, wishes, None),):
                with self.subTest(number=number), self.assertRaises(BadWishes) as caught:
                    call(MACHINE, wishes)
                self.assertEqual((caught.exception.hand, caught.exception.index), (hand, index))

    def test_bad_dealing(self):
        for number, place in enumerate(WRONG_PLACES + [("common", 3)]):
            for dealing in ((place, 0, 0), (0, 1, place)):
                with self.subTest(number=number), self.assertRaises(BadDealing):
                    can_do(MACHINE, ((), ()), dealing)
        for dealing in plain.ODD + [(), (0,), (0, 0), (0, 0, 0, 0), [0, 0, 0], "000"]:
            with self.subTest(dealing=dealing), self.assertRaises(BadDealing):
                can_do(MACHINE, ((), ()), dealing)

    def test_hands_numbers(self):
        for many in (1, 2, 3):
            self.assertEqual(can_do(MACHINE, ((),) * many, (many - 1, 0, 0)), (True,) * many)
            with self.assertRaises(BadDealing):
                can_do(MACHINE, ((),) * many, (many, 0, 0))

    def test_too_many_behind_bad_dealing(self):
        wishes = (((0, chain(0, 0, 8)), (1, chain(1, 1, 6))),)
        with self.assertRaises(BadDealing):
            can_do((2, (1, 1)), wishes, (0, 1))
        with self.assertRaises(TooMany):
            can_do((2, (1, 1)), wishes, (0, 0))


if __name__ == "__main__":
    unittest.main()
