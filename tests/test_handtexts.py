"""Point 12: read_term, write_hands, read_hands."""

import random
import unittest

from tests import plain, plainsearch
from tests.plainsearch import chain
from tests.test_terms import bush
from weavelines.errors import BadHands, BadLine, BadMachine, BadString, BadTerm
from weavelines.handtexts import read_hands, read_term, write_hands
from weavelines.terms import term_text

MACHINE = (3, (1, 2))
HANDS = (((0, 0, (1,)), (2, 1, (0, 1))), (), ((1, None, (2,)),))
TEXT = "cells 3\nreads 1 2\nhand\n0 f0 1\n2 f1 0 1\nhand\nhand\n1 copy 2"
NO_STRINGS = [value for value in plain.ODD if not isinstance(value, str)] + [(), ("c0",), 5, ["c0"], {"c0": 0}]


class ReadTerm(unittest.TestCase):
    def test_ordinary(self):
        self.assertEqual([read_term(MACHINE, text) for text in ("c0", "c1", "c2")], [0, 1, 2])
        self.assertEqual(read_term(MACHINE, "f0(c2)"), (0, 2))
        self.assertEqual(read_term(MACHINE, "f1(c0,c1)"), (1, 0, 1))
        self.assertEqual(read_term(MACHINE, "f1(f0(f1(c2,c2)),c1)"), (1, (0, (1, 2, 2)), 1))
        self.assertEqual(read_term((4, (2, 1, 2)), "f2(c3,f1(c3))"), (2, 3, (1, 3)))

    def test_what_was_written(self):
        chance = random.Random(121)
        for _ in range(500):
            machine = (chance.randint(1, 4), tuple(chance.randint(1, 2) for _ in range(chance.randint(1, 3))))
            term = plainsearch.some_term(chance, machine, chance.randint(1, 8))
            text = term_text(machine, term)
            self.assertEqual(text, plain.text(term))
            self.assertEqual(read_term(machine, text), term)

    def test_depths(self):
        for term in (chain(0, 2, 8), bush(8), (1, chain(0, 0, 7), bush(7))):
            self.assertEqual(read_term(MACHINE, plain.text(term)), term)
        for term in (chain(0, 2, 9), bush(9), (1, 0, chain(0, 0, 8)), (1, chain(0, 0, 8), 0), chain(0, 0, 300)):
            with self.assertRaises(BadTerm):
                read_term(MACHINE, plain.text(term))

    def bad(self, text, machine=MACHINE):
        with self.subTest(text=text[:30]), self.assertRaises(BadTerm):
            read_term(machine, text)

    def test_broken_off(self):
        text = "f1(f0(f1(c2,c2)),c1)"
        for length in range(len(text)):
            self.bad(text[:length])
            self.bad(text[length + 1:])

    def test_any_character_changed(self):
        # No change of one character leaves a term but one from a number to another that may stand there.
        text = "f1(f0(c2),c1)"
        for at in range(len(text)):
            for sign in "cf0123456789(),-+ \n\tCF_\u0660\u0661\u00b2;":
                changed = text[:at] + sign + text[at + 1:]
                inserted = text[:at] + sign + text[at:]
                self.bad(inserted)
                if at in (7, 11) and sign in "012":
                    self.assertEqual(plain.text(read_term(MACHINE, changed)), changed)
                elif changed != text:
                    self.bad(changed)

    def test_behind_the_term(self):
        for more in (" ", "\n", ")", "c0", ",c0", "(c0)", "f0(c0)", "\x00"):
            self.bad("c0" + more)
            self.bad("f0(c0)" + more)

    def test_blanks(self):
        for text in ("", " ", " c0", "c 0", "c0 ", "f0 (c0)", "f0( c0)", "f0(c0 )", "f1(c0, c1)", "f1(c0 ,c1)",
                     "f 0(c0)", "\tc0", "c0\n"):
            self.bad(text)

    def test_numbers(self):
        for text in ("c3", "c9", "c00", "c10", "c-1", "c+1", "c01", "c", "cc0", "c\u0660", "c\u00b2", "c\u0661",
                     "cNone", "f2(c0)", "f00(c0)", "f0(c00)", "f0(c3)", "f10(c0)", "f(c0)", "f-1(c0)",
                     "f\u0660(c0)", "f9(c0)"):
            self.bad(text)
        self.bad("c1", (1, (1,)))
        self.bad("f1(c0)", (1, (1,)))
        self.assertEqual(read_term((4, (1, 1, 1)), "f2(c3)"), (2, 3))

    def test_parts(self):
        for text in ("f0", "f0()", "f0(c0,c1)", "f1(c0)", "f1(c0,c1,c2)", "f1(c0,)", "f1(,c0)", "f1(c0c1)", "f1(c0;c1)",
                     "f0[c0]", "f0(c0", "f0c0", "f0((c0))", "(c0)", "f0(0)", "F0(c0)", "C0", "0", "(0, 1)",
                     "f1(c0,c1,)", "f0(f0)", "f0(c0))", "f0{c0}"):
            self.bad(text)

    def test_very_long(self):
        self.bad("f0(" * 100000)
        self.bad("(" * 100000)
        self.bad("f1(c0," * 100000)
        self.bad("f0(" * 50000 + "c0" + ")" * 50000)
        self.bad("c" * 100000)
        self.bad("c0" * 100000)
        self.bad("c" + "0" * 100000)
        self.bad("f0(c0)" + ")" * 100000)

    def test_errors(self):
        for value in NO_STRINGS:
            with self.subTest(value=value), self.assertRaises(BadString):
                read_term(MACHINE, value)
            with self.assertRaises(BadMachine):
                read_term((5, (1,)), value)
        for value in ("", "hand"):
            self.bad(value)
            with self.assertRaises(BadMachine):
                read_term(None, value)


class WriteHands(unittest.TestCase):
    def test_ordinary(self):
        self.assertEqual(write_hands(MACHINE, HANDS), TEXT)
        self.assertEqual(write_hands((1, (2,)), ((),)), "cells 1\nreads 2\nhand")
        self.assertEqual(write_hands((4, (2, 1, 2)), ((), ((3, 2, (0, 3)),))),
                         "cells 4\nreads 2 1 2\nhand\nhand\n3 f2 0 3")

    def test_limits_do_not_count(self):
        # Neither too deep nor too many is anything here.
        hands = (((0, 0, (0,)),) * 12,) * 3
        self.assertEqual(write_hands(MACHINE, hands), "cells 3\nreads 1 2" + ("\nhand" + "\n0 f0 0" * 12) * 3)
        self.assertEqual(read_hands(write_hands(MACHINE, hands)), (MACHINE, hands))

    def test_errors(self):
        with self.assertRaises(BadMachine):
            write_hands(None, None)
        for hands, hand, index in ((None, None, None), ((), None, None), ((None,), 0, None),
                                   (((), ((0, 0, (0,)), (0, None, (0,)))), 1, 1), ((((0, 0, (0,)),) * 13,), 0, None)):
            with self.assertRaises(BadHands) as caught:
                write_hands(MACHINE, hands)
            self.assertEqual((caught.exception.hand, caught.exception.index), (hand, index))

    def test_arguments_stay(self):
        hands = (((0, 0, (1,)),), ())
        self.assertEqual(write_hands(MACHINE, hands), write_hands(MACHINE, hands))
        self.assertEqual(hands, (((0, 0, (1,)),), ()))


def plain_text(machine, hands):
    text = "cells " + str(machine[0]) + "\nreads " + " ".join(map(str, machine[1]))
    for row in hands:
        text += "\nhand"
        for cell, function, sources in row:
            doing = "copy" if function is None else "f" + str(function)
            text += "\n" + " ".join([str(cell), doing] + [str(source) for source in sources])
    return text


def spaced(chance, text):
    """A text with spaces and void lines put in."""
    lines = []
    for line in text.split("\n"):
        while chance.random() < 0.3:
            lines.append(" " * chance.choice((0, 0, 1, 3)))
        words = [" " * chance.choice((1, 1, 2, 5)) + word for word in line.split(" ")]
        lines.append("".join(words)[chance.choice((0, 1)):] + " " * chance.choice((0, 0, 1, 4)))
    while chance.random() < 0.3:
        lines.append(" " * chance.choice((0, 0, 1, 3)))
    return "\n".join(lines)


FIGURES = [str(figure) for figure in range(10)]


class PlainReader:
    """Tells which words can stand at each place, and by that the first that cannot."""

    def __init__(self, text):
        self.cells = 0
        self.functions = []
        self.rows = []
        self.stage = "cells"
        lines = text.split("\n")
        self.wrong = None
        for number, line in enumerate(lines, 1):
            words = [word for word in line.split(" ") if word] + [""]
            if words != [""] and self.wrong is None:
                self.line(number, words)
        if self.wrong is None and not self.rows:
            self.wrong = (len(lines) + 1, 1)

    def line(self, number, words):
        for place in range(len(words)):
            if words[place] not in self.can_stand(words[:place]):
                self.wrong = (number, place + 1)
                return
        if self.stage == "cells":
            self.cells = int(words[1])
            self.stage = "reads"
        elif self.stage == "reads":
            self.functions = [int(word) for word in words[1:-1]]
            self.stage = "rows"
        elif words[0] == "hand":
            self.rows.append([])
        else:
            function = None if words[1] == "copy" else int(words[1][1])
            self.rows[-1].append((int(words[0]), function, tuple(map(int, words[2:-1]))))

    def can_stand(self, ahead):
        """The words that can stand behind these in a line, a void one if the line can end."""
        if self.stage == "cells":
            return [["cells"], ["1", "2", "3", "4"], [""]][len(ahead)]
        if self.stage == "reads":
            return [["reads"], ["1", "2"], ["", "1", "2"], ["", "1", "2"], [""]][len(ahead)]
        cells = FIGURES[:self.cells]
        if not ahead:
            can = ["hand"] if len(self.rows) < 3 else []
            return can + cells if self.rows and len(self.rows[-1]) < 12 else can
        if ahead[0] == "hand":
            return [""]
        if len(ahead) == 1:
            return ["copy"] + ["f" + FIGURES[function] for function in range(len(self.functions))]
        if ahead[1] == "copy":
            return [cell for cell in cells if cell != ahead[0]] if len(ahead) == 2 else [""]
        return cells if len(ahead) < 2 + self.functions[int(ahead[1][1])] else [""]


class ReadHands(unittest.TestCase):
    def test_ordinary(self):
        self.assertEqual(read_hands(TEXT), (MACHINE, HANDS))
        self.assertEqual(read_hands("cells 1\nreads 2\nhand"), ((1, (2,)), ((),)))
        machine, hands = read_hands("cells 4\nreads 2 1 2\nhand\nhand\n3 f2 0 3\n")
        self.assertEqual((machine, hands), ((4, (2, 1, 2)), ((), ((3, 2, (0, 3)),))))
        self.assertEqual({type(part) for part in (machine, machine[1], hands, *hands, *hands[1], hands[1][0][2])},
                         {tuple})

    def test_what_was_written(self):
        chance = random.Random(122)
        for machine, hands, _ in plain.some_cases(300, 123):
            text = write_hands(machine, hands)
            self.assertEqual(text, plain_text(machine, hands))
            self.assertEqual(read_hands(text), (machine, hands))
            self.assertEqual(read_hands(spaced(chance, text)), (machine, hands))

    def test_spaces_and_void_lines(self):
        text = ("\n   \n  cells   3 \n\nreads  1  2\n \nhand  \n\n\n 0   f0 1\n  2 f1 0 1   \nhand\nhand\n"
                "1 copy 2\n\n  \n")
        self.assertEqual(read_hands(text), (MACHINE, HANDS))

    def test_nothing_else_parts_words(self):
        for sign in "\t\r\x0b\x0c\u00a0\u2003\u2028\x85\x1c":
            self.bad("cells" + sign + "3\nreads 1\nhand", 1, 1)
            self.bad("cells 3" + sign + "\nreads 1\nhand", 1, 2)
            self.bad("cells 3\nreads 1\nhand\n" + sign, 4, 1)
            self.bad("cells 3\nreads 1\nhand\n0 f0" + sign + "1", 4, 2)
            self.bad("cells 3\nreads 1" + sign + "hand", 2, 2)

    def bad(self, text, line, place):
        with self.subTest(text=text[:60]), self.assertRaises(BadLine) as caught:
            read_hands(text)
        self.assertEqual((caught.exception.line, caught.exception.place), (line, place), text)

    def test_cells(self):
        for word in ("Cells", "cell", "cells3", "reads", "hand", "3", "cells:", "CELLS", "0"):
            self.bad(word + " 3\nreads 1\nhand", 1, 1)
        for word in ("0", "5", "9", "03", "10", "-1", "+3", "x", "1.", "\u0663", "\u00b3", "three", "f1"):
            self.bad("cells " + word + "\nreads 1\nhand", 1, 2)
            self.bad("cells " + word + " 3\nreads 1\nhand", 1, 2)
        self.bad("cells\nreads 1\nhand", 1, 2)
        self.bad("cells 3 3\nreads 1\nhand", 1, 3)
        self.bad("cells 3 3 3\nreads 1\nhand", 1, 3)
        self.bad("\n\n  cells 3   hand\nreads 1\nhand", 3, 3)

    def test_reads(self):
        for word in ("read", "Reads", "cells", "hand", "1", "reads1", "0"):
            self.bad("cells 3\n" + word + " 1\nhand", 2, 1)
        for word in ("0", "3", "9", "01", "12", "-1", "+1", "x", "\u0661", "f1"):
            self.bad("cells 3\nreads " + word + "\nhand", 2, 2)
            self.bad("cells 3\nreads 1 " + word + "\nhand", 2, 3)
            self.bad("cells 3\nreads 1 2 " + word + " 1 2\nhand", 2, 4)
        self.bad("cells 3\nreads\nhand", 2, 2)
        for more in ("1", "0", "hand", "1 1"):
            self.bad("cells 3\nreads 1 2 1 " + more + "\nhand", 2, 5)
        self.assertEqual(read_hands("cells 3\nreads 1 2 1\nhand"), ((3, (1, 2, 1)), ((),)))

    def test_first_words(self):
        ahead = "cells 3\nreads 1 2\n"
        for word in ("hands", "Hand", "cells", "reads", "0", "f0", "copy", "hand0"):
            self.bad(ahead + word, 3, 1)
            self.bad(ahead + "\n\n" + word + " f0 1", 5, 1)
        for word in ("hands", "Hand", "cells", "reads", "3", "9", "f0", "copy", "00", "-0", "\u0660", "c0"):
            self.bad(ahead + "hand\n" + word, 4, 1)
            self.bad(ahead + "hand\n0 f0 0\n" + word + " f0 9", 5, 1)
        self.bad(ahead + "hand 0", 3, 2)
        self.bad(ahead + "hand hand", 3, 2)
        self.bad(ahead + "hand\nhand x", 4, 2)

    def test_fourth_hand(self):
        ahead = "cells 3\nreads 1 2\nhand\nhand\n0 f0 0\nhand\n"
        self.assertEqual(len(read_hands(ahead)[1]), 3)
        self.bad(ahead + "hand", 7, 1)
        self.bad(ahead + "hand x", 7, 1)
        self.bad(ahead + "0 f0 0\n\nhand\n", 9, 1)

    def test_thirteenth_line(self):
        ahead = "cells 3\nreads 1 2\n" + "hand" + "\n0 f0 0" * 12
        self.assertEqual(len(read_hands(ahead)[1][0]), 12)
        for line in ("0 f0 0", "0 f9", "0", "x", "9 f0 0"):
            self.bad(ahead + "\n" + line, 16, 1)
        _, hands = read_hands(ahead + "\nhand\n0 f0 0\nhand" + "\n1 f0 0" * 12)
        self.assertEqual([len(row) for row in hands], [12, 1, 12])
        self.bad(ahead + "\nhand" + "\n1 copy 0" * 13, 29, 1)
        # Then comes what is wrong in an earlier word of the text.
        self.bad(ahead.replace("0 f0 0", "0 f0 3", 1) + "\n0 f0 0", 4, 3)

    def test_lines(self):
        ahead = "cells 3\nreads 1 2\nhand\n"
        for word in ("f2", "f9", "f", "f-1", "f00", "f01", "F0", "0", "c0", "copy0", "Copy", "cop", "None", "f0(1)",
                     "hand", "f\u0660", "f+0", "1", "\u00b9"):
            self.bad(ahead + "0 " + word, 4, 2)
            self.bad(ahead + "0 " + word + " 9 9 9", 4, 2)
        self.bad(ahead + "0", 4, 2)
        self.bad("cells 3\nreads 1\nhand\n0 f1 1 1", 4, 2)
        for word in ("3", "9", "-1", "00", "x", "c0", "f0", "copy", "\u0661", "hand"):
            for line in ("0 f0 ", "0 copy ", "0 f1 "):
                self.bad(ahead + line + word, 4, 3)
                self.bad(ahead + line + word + " 9 9", 4, 3)
            self.bad(ahead + "0 f1 1 " + word, 4, 4)

    def test_lacking(self):
        ahead = "cells 3\nreads 1 2\nhand\n"
        for line, place in (("0", 2), ("0 f0", 3), ("0 f1", 3), ("0 f1 0", 4), ("0 copy", 3)):
            self.bad(ahead + line, 4, place)
            self.bad(ahead + "  " + line.replace(" ", "   ") + "    \n0 f0 0", 4, place)

    def test_too_many(self):
        ahead = "cells 3\nreads 1 2\nhand\n"
        for line, place in (("0 f0 0 0", 4), ("0 f1 0 0 0", 5), ("0 copy 1 1", 4), ("0 copy 1 0", 4),
                            ("0 f0 0 x y", 4)):
            self.bad(ahead + line, 4, place)

    def test_copy_of_its_own_cell(self):
        ahead = "cells 3\nreads 1 2\nhand\n"
        for cell in "012":
            self.bad(ahead + cell + " copy " + cell, 4, 3)
            self.bad(ahead + cell + " copy " + cell + " 1", 4, 3)
        self.bad("cells 1\nreads 1\nhand\n0 copy 0", 4, 3)
        self.bad("cells 1\nreads 1\nhand\n0 copy 1", 4, 3)
        self.bad("cells 1\nreads 1\nhand\n0 copy", 4, 3)

    def test_ends_too_early(self):
        self.bad("", 2, 1)
        self.bad("   ", 2, 1)
        self.bad("\n", 3, 1)
        self.bad("\n\n \n", 5, 1)
        self.bad("cells 3", 2, 1)
        self.bad("cells 3\n", 3, 1)
        self.bad("cells 3\nreads 1 2", 3, 1)
        self.bad("\ncells 3\n\nreads 1 2\n\n", 7, 1)

    def test_first_of_more(self):
        self.bad("cells 9\nread 1\nhands", 1, 2)
        self.bad("cells 3\nread 9\nhands", 2, 1)
        self.bad("cells 3\nreads 1 9 9\nhands", 2, 3)
        self.bad("cells 3\nreads 1\nhand\n0 f1 9\n0 f0 9", 4, 2)
        self.bad("cells 3\nreads 1\nhand\n0 f0 0\n0 f0 9 9\n9", 5, 3)

    def test_against_a_plain_reader(self):
        chance = random.Random(124)
        words = ["cells", "reads", "hand", "copy", "0", "1", "2", "3", "4", "5", "f0", "f1", "f2", "f3", "x",
                 "00", "", "\n"]
        wrong = []
        for machine, hands, _ in plain.some_cases(3000, 125):
            text = plain_text(machine, tuple(row * chance.choice((1, 1, 1, 3, 13)) for row in hands))
            parts = spaced(chance, text).replace("\n", " \n ").split(" ")
            for _ in range(chance.choice((0, 1, 1, 1, 2))):
                at = chance.randrange(len(parts))
                parts[at:at + chance.choice((0, 1, 1, 2))] = [chance.choice(words)] * chance.choice((0, 1, 1, 1))
            text = " ".join(parts)
            told = PlainReader(text)
            if told.wrong is None:
                machine = (told.cells, tuple(told.functions))
                self.assertEqual(read_hands(text), (machine, tuple(map(tuple, told.rows))))
            else:
                self.bad(text, *told.wrong)
            wrong.append(told.wrong)
        self.assertGreater(wrong.count(None), 200)
        self.assertGreater(len(set(wrong)), 60)

    def test_no_string(self):
        for value in NO_STRINGS:
            with self.subTest(value=value), self.assertRaises(BadString):
                read_hands(value)


if __name__ == "__main__":
    unittest.main()
