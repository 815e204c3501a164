"""Words of lines, and the single figures that numbers are."""

from weavelines.checks import is_between
from weavelines.errors import BadLine

FIGURES = "0123456789"


def words_of(line):
    """The words of a line; nothing but spaces parts them."""
    return [word for word in line.split(" ") if word != ""]


def figure(word):
    """The number that a single figure tells, -1 for any other word."""
    if len(word) != 1:
        return -1
    return FIGURES.find(word)


def lettered_figure(letter, word):
    """The number that a letter and a single figure tell, -1 for any other word."""
    if word[:1] != letter:
        return -1
    return figure(word[1:])


class LineReader:
    """Reads the words of a text's line one behind another; BadLine for the first that cannot stand."""

    def __init__(self, number, words):
        self.number = number
        self.words = words
        self.place = 0

    def next_word(self):
        """The next word, a void one behind the line's last."""
        self.place += 1
        if self.place > len(self.words):
            return ""
        return self.words[self.place - 1]

    def require(self, can_stand):
        """Raises BadLine for the word read last unless it can stand."""
        if not can_stand:
            raise BadLine(self.number, self.place)

    def read_word(self, word):
        self.require(self.next_word() == word)

    def read_number(self, low, high):
        number = figure(self.next_word())
        self.require(is_between(number, low, high))
        return number

    def read_end(self):
        self.read_word("")


def line_readers(text):
    """Readers of all lines of a text that are not void, and of one behind its last line."""
    lines = text.split("\n")
    readers = [LineReader(number, words_of(line)) for number, line in enumerate([*lines, ""], start=1)]
    return [reader for reader in readers[:-1] if reader.words] + readers[-1:]
