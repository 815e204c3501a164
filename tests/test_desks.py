"""Point 14: Desk."""

import random
import unittest

from tests import plain, plainsearch
from tests.plainsearch import chain
from tests.test_handtexts import NO_STRINGS, plain_text, spaced
from tests.test_weavings import WIDE, WIDTH_3001
from weavelines.desks import Desk
from weavelines.errors import BadLine, BadString, NoDealing, TooMany
from weavelines.searches import least_cells, woven_rows

TEXT = "cells 3\nreads 1 2\nhand\n0 f0 1\n2 f1 0 1\nhand\n1 copy 0"
MACHINE = (3, (1, 2))
ALL_WORDS = ("do 0", "undo", "holds", "moments", "sure 0", "outcomes", "wish 0 0 c0", "drop 0", "keeps", "harm",
             "weave", "cells")


def desk_of(text):
    desk = Desk()
    desk.take_hands(text)
    return desk


def desk_with(machine, hands):
    return desk_of(plain_text(machine, hands))


class Conversations(unittest.TestCase):
    def talk(self, desk, *told):
        for line, answer in told:
            with self.subTest(line=line):
                self.assertEqual(desk.say(line), answer)

    def test_do_undo_holds_moments(self):
        self.talk(desk_of(TEXT), ("holds", "c0 c1 c2"), ("moments", "0 0"), ("undo", "no line"),
                  ("do 1", "c0 c0 c2"), ("moments", "0 1"), ("do 0", "f0(c0) c0 c2"), ("do 1", "no line"),
                  ("do 0", "f0(c0) c0 f1(f0(c0),c0)"), ("do 0", "no line"), ("moments", "2 1"),
                  ("holds", "f0(c0) c0 f1(f0(c0),c0)"), ("undo", "f0(c0) c0 c2"), ("undo", "c0 c0 c2"),
                  ("undo", "c0 c1 c2"), ("undo", "no line"), ("moments", "0 0"), ("holds", "c0 c1 c2"),
                  ("do 0", "f0(c1) c1 c2"))

    def test_sure(self):
        self.talk(desk_of(TEXT), ("sure 0", "c0 - c2; - - c2; - - -"), ("sure 1", "- c1 -; - - -"))
        self.talk(desk_of("cells 2\nreads 1\nhand\nhand\n0 f0 1"), ("sure 0", "- c1"), ("sure 1", "c0 c1; f0(c1) c1"))

    def test_outcomes(self):
        self.talk(desk_of("cells 2\nreads 1\nhand\n0 f0 1\nhand\n1 copy 0"),
                  ("outcomes", "f0(c0) c0; f0(c1) f0(c1)"))
        self.talk(desk_of("cells 2\nreads 1\nhand"), ("outcomes", "c0 c1"), ("sure 0", "c0 c1"))

    def test_wishes(self):
        desk = desk_of(TEXT)
        self.talk(desk, ("keeps", "yes"), ("harm", "none"), ("wish 0 0 f0(c1)", "done"), ("keeps", "no"),
                  ("harm", "1 0 0"), ("wish 0 0 f0(c0)", "done"), ("harm", "0 0"), ("drop 0", "done"), ("keeps", "yes"),
                  ("harm", "none"))
        # Another one for that cell is replaced; those for other cells, and of other hands, stay.
        self.talk(desk, ("wish 1 1 c0", "done"), ("harm", "0 1"), ("wish 1 1 f0(c1)", "done"), ("harm", "1"),
                  ("drop 0", "done"), ("keeps", "no"), ("wish 1 2 c2", "done"), ("drop 1", "done"), ("keeps", "yes"))
        self.talk(desk, ("wish 0 1 c1", "done"), ("wish 1 1 c1", "done"), ("drop 0", "done"), ("harm", "1"),
                  ("drop 1", "done"), ("keeps", "yes"), ("drop 1", "done"))

    def test_wishes_in_any_sequence(self):
        desk = desk_of("cells 3\nreads 1\nhand\n2 f0 1\n0 f0 1")
        self.talk(desk, ("wish 0 2 f0(c1)", "done"), ("wish 0 0 f0(c1)", "done"), ("wish 0 1 c1", "done"),
                  ("keeps", "yes"), ("wish 0 1 c0", "done"), ("keeps", "no"))

    def test_harm(self):
        self.talk(desk_of("cells 2\nreads 1\nhand\nhand\n0 f0 1"), ("harm", "none"), ("wish 0 0 f0(c1)", "done"),
                  ("harm", "-"), ("wish 0 0 c0", "done"), ("harm", "1"), ("keeps", "no"))

    def test_weave(self):
        # Here each row of the fewest lines is the only one.
        self.talk(desk_of("cells 4\nreads 1 2\nhand\nhand\nhand"), ("weave", "-; -; -"), ("wish 1 0 f1(c1,c3)", "done"),
                  ("weave", "-; 0 f1 1 3; -"), ("wish 2 2 f0(c3)", "done"), ("weave", "-; 0 f1 1 3; 2 f0 3"),
                  ("wish 0 0 c0", "done"), ("weave", "no dealing"), ("drop 0", "done"),
                  ("weave", "-; 0 f1 1 3; 2 f0 3"))
        self.talk(desk_of("cells 1\nreads 1\nhand"), ("wish 0 0 f0(f0(c0))", "done"), ("weave", "0 f0 0, 0 f0 0"))
        self.talk(desk_of("cells 2\nreads 1\nhand\nhand"), ("wish 0 0 c1", "done"), ("weave", "0 copy 1; -"),
                  ("wish 1 0 c1", "done"), ("weave", "0 copy 1; 0 copy 1"))

    def test_cells(self):
        self.talk(desk_of("cells 4\nreads 1\nhand\nhand"), ("cells", "1 1"), ("wish 0 0 f0(c1)", "done"),
                  ("cells", "2 2"), ("wish 1 0 f0(c1)", "done"), ("cells", "2 -"),
                  ("wish 1 1 c0", "done"), ("cells", "- -"))

    def test_lines_done_do_not_matter_to_wishes(self):
        desk = desk_of(TEXT)
        for line in (None, "do 1", "do 0", "do 0"):
            if line is not None:
                desk.say(line)
            self.talk(desk, ("wish 0 0 f0(c1)", "done"), ("harm", "1 0 0"), ("keeps", "no"), ("weave", "0 f0 1; -"),
                      ("cells", "2 2"), ("sure 1", "- c1 -; - - -"), ("drop 0", "done"), ("keeps", "yes"))

    def test_several_spaces(self):
        self.talk(desk_of(TEXT), ("  do   0 ", "f0(c1) c1 c2"), (" holds", "f0(c1) c1 c2"), ("moments   ", "1 0"),
                  ("   undo   ", "c0 c1 c2"), ("wish   0  0    f0(c1)", "done"), (" keeps ", "no"), ("drop  0", "done"),
                  ("sure    1  ", "- c1 -; - - -"))


class WrongWords(unittest.TestCase):
    def test_what(self):
        wrong = ["", " ", "   ", "Do 0", "DO 0", "do", "do0", "do 0 0", "do 0 1", "undo 0", "undo 1", "holds 0",
                 "moments 0", "sure", "sure 0 1", "outcomes 0", "wish", "wish 0", "wish 0 0", "wish 0 0 c0 c1",
                 "wish 0 0 f1(c0, c1)", "wish 0 0 f0 (c0)", "drop", "drop 0 0", "keeps 0", "harm 0", "weave 0", "cells 3",
                 "hand", "cells 3\nreads 1", "0", "holds\n", "\nholds", "holds\tholds", "holds;", "done", "what", "reads",
                 "hold", "take_hands", "__init__", "keeps keeps", "do\t0", "undo\n"]
        for desk in (Desk(), desk_of(TEXT)):
            for line in wrong + NO_STRINGS:
                with self.subTest(line=line):
                    self.assertEqual(desk.say(line), "what")

    def test_no_hands(self):
        desk = Desk()
        for line in ALL_WORDS + ("do 9", "do x", "wish 9 9 9", "drop all", "sure -", " holds "):
            self.assertEqual(desk.say(line), "no hands")
        for text in (None, "", "cells 3"):
            with self.assertRaises((BadString, BadLine)):
                desk.take_hands(text)
            self.assertEqual(desk.say("holds"), "no hands")
            self.assertEqual(desk.say("hold"), "what")
        desk.take_hands(TEXT)
        for line in ALL_WORDS:
            self.assertNotIn(desk.say(line), ("no hands", "what"))

    def test_no_hand(self):
        desk = desk_of(TEXT)
        for word in ("2", "3", "9", "-1", "00", "01", "+0", "x", "c0", "True", "None", "-", "0,", "\u0660",
                     "\u00b9", "0\t", "0\n"):
            for line in ("do {}", "sure {}", "drop {}", "wish {} 0 c0", "wish {} 9 c0", "wish {} 0 x", "wish {} x x"):
                with self.subTest(line=line.format(word)):
                    self.assertEqual(desk.say(line.format(word)), "no hand")
        for many in (1, 2, 3):
            desk = desk_of("cells 1\nreads 1" + "\nhand" * many)
            self.assertEqual([desk.say("drop " + str(hand)) for hand in range(4)],
                             ["done"] * many + ["no hand"] * (4 - many))
        self.assertEqual(desk.say("moments"), "0 0 0")

    def test_no_cell(self):
        desk = desk_of(TEXT)
        for word in ("3", "4", "9", "-1", "00", "x", "c0", "f0(c0)", "\u0660", "True"):
            for line in ("wish 0 {} c0", "wish 1 {} x", "wish 0 {} f0("):
                with self.subTest(line=line.format(word)):
                    self.assertEqual(desk.say(line.format(word)), "no cell")
        self.assertEqual(desk.say("keeps"), "yes")
        for cells in (1, 2, 3, 4):
            desk = desk_of("cells " + str(cells) + "\nreads 1\nhand")
            self.assertEqual([desk.say("wish 0 " + str(cell) + " c0") for cell in range(5)],
                             ["done"] * cells + ["no cell"] * (5 - cells))

    def test_no_term(self):
        desk = desk_of(TEXT)
        for word in ("0", "c3", "c", "f0", "f0()", "f0(c3)", "f2(c0)", "f1(c0)", "f0(c0,c1)", "f0(c0", "f0(c0))", "x",
                     "-", "c0;", "(0,1)", "c00", plain.text(chain(0, 0, 9)), "f0(" * 5000):
            with self.subTest(word=word[:30]):
                self.assertEqual(desk.say("wish 0 0 " + word), "no term")
                self.assertEqual(desk.say("wish 2 0 " + word), "no hand")
                self.assertEqual(desk.say("wish 0 3 " + word), "no cell")
        self.assertEqual(desk.say("keeps"), "yes")
        self.assertEqual(desk.say("wish 0 0 " + plain.text(chain(0, 0, 8))), "done")
        self.assertEqual(desk.say("keeps"), "no")

    def test_a_wrong_wish_leaves_the_old_one(self):
        desk = desk_of(TEXT)
        desk.say("wish 1 1 c0")
        for line in ("wish 1 1 x", "wish 1 3 c1", "wish 2 1 c1", "wish 1 1", "drop 2", "drop"):
            desk.say(line)
            self.assertEqual(desk.say("harm"), "0 1")


class TakeHands(unittest.TestCase):
    def test_taken_anew(self):
        desk = desk_of(TEXT)
        for line in ("do 0", "do 1", "wish 0 0 c2"):
            desk.say(line)
        self.assertIsNone(desk.take_hands(TEXT))
        for line, answer in (("moments", "0 0"), ("holds", "c0 c1 c2"), ("undo", "no line"), ("keeps", "yes"),
                             ("weave", "-; -")):
            self.assertEqual(desk.say(line), answer)
        desk.take_hands("\n cells   1\nreads 1\n\nhand")
        for line, answer in (("moments", "0"), ("holds", "c0"), ("do 0", "no line"), ("do 1", "no hand"),
                             ("wish 0 1 c0", "no cell"), ("wish 0 0 f1(c0,c0)", "no term")):
            self.assertEqual(desk.say(line), answer)

    def test_raised(self):
        desk = desk_of(TEXT)
        for line in ("do 1", "do 0", "wish 0 0 f0(c1)"):
            desk.say(line)
        wrong = [(value, BadString) for value in NO_STRINGS]
        wrong += [(text, BadLine) for text in ("", "cells 3", "cells 2\nreads 1", TEXT + "\n3 f0 0",
                                               TEXT.replace("3", "5"))]
        for text, error in wrong:
            with self.subTest(text=text), self.assertRaises(error):
                desk.take_hands(text)
            for line, answer in (("moments", "1 1"), ("holds", "f0(c0) c0 c2"), ("harm", "1 0 0"),
                                 ("sure 1", "- c1 -; - - -"), ("weave", "0 f0 1; -")):
                self.assertEqual(desk.say(line), answer)

    def test_line_and_place(self):
        with self.assertRaises(BadLine) as caught:
            Desk().take_hands("cells 3\nreads 1\nhand\n0 f1 1")
        self.assertEqual((caught.exception.line, caught.exception.place), (4, 2))

    def test_unlike_desks(self):
        first, second = desk_of(TEXT), desk_of(TEXT)
        first.say("do 0")
        first.say("wish 0 0 c2")
        self.assertEqual((second.say("moments"), second.say("keeps")), ("0 0", "yes"))


class TooMuch(unittest.TestCase):
    def raised(self, most, desk, *lines):
        for line in lines:
            before = (desk.say("holds"), desk.say("moments"))
            with self.subTest(line=line), self.assertRaises(TooMany) as caught:
                desk.say(line)
            self.assertEqual(caught.exception.most, most)
            self.assertEqual((desk.say("holds"), desk.say("moments")), before)

    def test_deep(self):
        desk = desk_with(MACHINE, (((0, 0, (0,)),) * 9,))
        self.raised(8, desk, "sure 0", "outcomes", "keeps", "harm")
        for _ in range(7):
            desk.say("do 0")
        self.raised(8, desk, "do 0", "do 0")
        self.assertEqual(desk.say("moments"), "7")
        self.assertEqual(desk.say("sure 1"), "no hand")
        self.assertEqual(desk.say("undo"), plain.text(chain(0, 0, 7)) + " c1 c2")

    def test_wide(self):
        desk = desk_with(WIDE, WIDTH_3001)
        self.raised(3000, desk, "sure 0", "outcomes", "keeps", "harm")
        self.assertEqual(desk.say("weave"), "; ".join("-" for _ in WIDTH_3001))

    def test_searches(self):
        desk = desk_of("cells 4\nreads 1 1\nhand\nhand")
        for line in ("wish 0 0 " + plain.text(chain(0, 0, 8)), "wish 0 1 " + plain.text(chain(1, 1, 4))):
            self.assertEqual(desk.say(line), "done")
        self.assertEqual(desk.say("cells"), "2 2")
        desk.say("wish 0 1 " + plain.text(chain(1, 1, 5)))
        self.raised(12, desk, "weave", "cells")
        desk.say("drop 0")
        for hand in "01":
            desk.say("wish " + hand + " " + hand + " " + plain.text(chain(0, 3, 6)))
        self.raised(3000, desk, "weave")
        self.assertEqual(desk.say("keeps"), "no")


def told(rows):
    return "; ".join(" ".join("-" if term is None else plain.text(term) for term in row) for row in rows)


class PlainDesk:
    """Answers by plain enumerations."""

    def __init__(self, machine, hands):
        self.machine = machine
        self.hands = hands
        self.weaving = ()
        self.wished = [{} for _ in hands]

    def wishes(self):
        return tuple(tuple(sorted(row.items(), key=lambda wish: wish[0])) for row in self.wished)

    def say(self, words):
        return getattr(self, "say_" + words[0])(*words[1:])

    def say_do(self, hand):
        if int(hand) >= len(self.hands):
            return "no hand"
        if self.weaving.count(int(hand)) == len(self.hands[int(hand)]):
            return "no line"
        self.weaving += (int(hand),)
        return self.say_holds()

    def say_undo(self):
        if not self.weaving:
            return "no line"
        self.weaving = self.weaving[:-1]
        return self.say_holds()

    def say_holds(self):
        return told([plain.run(self.machine, self.hands, self.weaving)])

    def say_moments(self):
        return " ".join(str(self.weaving.count(hand)) for hand in range(len(self.hands)))

    def say_sure(self, hand):
        if int(hand) >= len(self.hands):
            return "no hand"
        return told(plain.sure(self.machine, self.hands, int(hand)))

    def say_outcomes(self):
        return told(plain.all_standing(self.machine, self.hands)[tuple(map(len, self.hands))])

    def say_wish(self, hand, cell, term):
        if int(hand) >= len(self.hands):
            return "no hand"
        if int(cell) >= self.machine[0]:
            return "no cell"
        self.wished[int(hand)][int(cell)] = term
        return "done"

    def say_drop(self, hand):
        if int(hand) >= len(self.hands):
            return "no hand"
        self.wished[int(hand)] = {}
        return "done"

    def say_keeps(self):
        return "yes" if plain.least_harm(self.machine, self.hands, self.wishes()) is None else "no"

    def say_harm(self):
        weaving = plain.least_harm(self.machine, self.hands, self.wishes())
        return "none" if weaving is None else " ".join(map(str, weaving)) or "-"

    def say_weave(self):
        try:
            rows = woven_rows(self.machine, self.wishes())
        except NoDealing:
            return "no dealing"
        text = plain_text(self.machine, rows).split("\nhand")[1:]
        return "; ".join(row[1:].replace("\n", ", ") or "-" for row in text)

    def say_cells(self):
        return " ".join("-" if cells is None else str(cells) for cells in least_cells(self.machine, self.wishes()))


class AgainstAPlainDesk(unittest.TestCase):
    def test_sessions(self):
        chance = random.Random(141)
        desk = Desk()
        seen = {}
        for machine, hands, _ in plain.some_cases(150, 142):
            desk.take_hands(spaced(chance, plain_text(machine, hands)))
            right = PlainDesk(machine, hands)
            for _ in range(25):
                words = chance.choice(ALL_WORDS).split(" ")[:1]
                if words[0] in ("do", "sure", "drop", "wish"):
                    words.append(str(chance.choice((0, 0, 1, 1, 2))))
                line = " ".join(words)
                if words[0] == "wish":
                    held = plain.run(machine, hands, chance.choice(plain.all_weavings(hands)))
                    term = chance.choice(held + (plainsearch.some_term(chance, machine, 2),))
                    cell = held.index(term) if term in held and chance.random() < 0.8 else chance.randrange(5)
                    words += [str(cell), term]
                    line += "  " + str(cell) + " " + plain.text(term)
                answer = right.say(words)
                with self.subTest(machine=machine, hands=hands, line=line):
                    self.assertEqual(desk.say(line), answer)
                seen.setdefault(words[0], set()).add(answer)
        self.assertEqual(seen["keeps"], {"yes", "no"})
        self.assertEqual(seen["drop"], {"done", "no hand"})
        self.assertEqual(seen["wish"], {"done", "no hand", "no cell"})
        for word, answer in (("do", "no line"), ("undo", "no line"), ("sure", "no hand"), ("harm", "none"),
                             ("harm", "-"), ("harm", "0 0"), ("harm", "0 1 1"), ("weave", "no dealing"),
                             ("cells", "- -"), ("cells", "3 3")):
            self.assertIn(answer, seen[word])


if __name__ == "__main__":
    unittest.main()
