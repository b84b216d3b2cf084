"""Libraries written as texts, and texts read."""

from firsttouch.errors import BadText
from firsttouch.kinds import is_word
from firsttouch.rows import HEADS, block_count, blocks_of

MODULE = "module"
ELSE = "else"
NOTHING = "nothing"


def indent(depth):
    return "  " * depth


def text_of(modules):
    """The text of a dict from modules to their rows, in the order of the dict."""
    lines = []
    for module, rows in modules.items():
        lines.append(MODULE + " " + module)
        lines.extend(lines_of(rows, 1))
    return "".join([line + "\n" for line in lines])


def lines_of(rows, depth):
    if len(rows) == 0:
        return [indent(depth) + NOTHING]
    lines = []
    for row in rows:
        blocks = blocks_of(row)
        heads = row[:len(row) - len(blocks)]
        lines.append(indent(depth) + " ".join([str(head) for head in heads]))
        for b, block in enumerate(blocks):
            if b == 1:
                lines.append(indent(depth) + ELSE)
            lines.extend(lines_of(block, depth + 1))
    return lines


def is_number(word):
    """Whether a word is an integer as `str` writes it."""
    digits = word.removeprefix("-")
    if not digits.isascii() or not digits.isdigit():
        return False
    return not digits.startswith("0") or word == "0"


def heads_of(words):
    """The word, words and numbers with which a row begins that is written so, or None."""
    if len(words) == 0 or words[0] not in HEADS:
        return None
    kinds = HEADS[words[0]]
    if len(words) != 1 + len(kinds):
        return None
    heads = [words[0]]
    for kind, word in zip(kinds, words[1:]):
        if kind == "word" and is_word(word):
            heads.append(word)
        elif kind != "word" and is_number(word):
            heads.append(int(word))
        else:
            return None
    return heads


class Reader:
    """A text that is read line by line.

    Whatever the text may go on with is told by its lines so far, so the line
    that is refused is the first that cannot stand there.
    """

    def __init__(self, text):
        pieces = text.split("\n")
        self._lines = pieces[:-1]
        self._unended = pieces[-1]
        self._at = 0

    def library(self):
        """The dict from modules to lists of rows that the text is."""
        found = {}
        last = ""
        while self._at < len(self._lines):
            last = self._module_behind(last)
            found[last] = self._block(1)
        if len(found) == 0 or self._unended != "":
            raise BadText(self._at + 1)
        return found

    def _words(self, depth):
        """The words of the next line, none of them if it stands less far in."""
        if self._at == len(self._lines):
            return []
        line = self._lines[self._at]
        if not line.startswith(indent(depth)):
            return []
        return line[2 * depth:].split(" ")

    def _module_behind(self, last):
        words = self._words(0)
        if len(words) != 2 or words[0] != MODULE or not is_word(words[1]) or words[1] <= last:
            raise BadText(self._at + 1)
        self._at += 1
        return words[1]

    def _block(self, depth):
        if self._words(depth) == [NOTHING]:
            self._at += 1
            return []
        rows = [self._row(depth)]
        # A line further in cannot stand here at all, so that it is read as a row and refused.
        while len(self._words(depth)) > 0:
            rows.append(self._row(depth))
        return rows

    def _row(self, depth):
        row = heads_of(self._words(depth))
        if row is None:
            raise BadText(self._at + 1)
        self._at += 1
        for b in range(block_count(row[0])):
            if b == 1:
                self._else(depth)
            row.append(self._block(depth + 1))
        return row

    def _else(self, depth):
        if self._words(depth) != [ELSE]:
            raise BadText(self._at + 1)
        self._at += 1
