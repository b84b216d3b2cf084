"""The forms of rows, and the paths at which rows stand.

A row is told by its word, then words and numbers, then blocks. In a row that
was taken, all lists have become tuples. The path of row j of a block is the
PREFIX of the block and j; the prefix of a module is (), that of block b of the
row at path p is p + (b,).
"""

from firsttouch.errors import BadProgram
from firsttouch.kinds import is_integer, is_list, is_word

# What stands in a row between its word and its blocks.
HEADS = {
    "load": ("word", "word"),
    "pick": ("word", "word", "word"),
    "put": ("word", "number"),
    "copy": ("word", "word"),
    "part": ("word", "word", "word"),
    "drop": ("word",),
    "say": ("number",),
    "tell": ("word",),
    "seen": ("word", "word"),
    "fail": ("number",),
    "make": ("word",),
    "call": ("word",),
    "when": ("word",),
    "try": (),
}

BLOCKS = {"make": 1, "when": 2, "try": 2}

NAMING = ("load", "pick", "put", "copy", "part", "seen", "make")
IMPORTING = ("load", "pick")
BARRED_IN_FUNCTIONS = ("make", "call")


def block_count(word):
    """How many blocks a row with this word has."""
    return BLOCKS.get(word, 0)


def blocks_of(row):
    return row[1 + len(HEADS[row[0]]):]


def is_head(kind, thing):
    if kind == "word":
        return is_word(thing)
    return is_integer(thing)


def is_row(thing):
    """Whether an object is a row, whatever stands in its blocks."""
    if not is_list(thing) or len(thing) == 0:
        return False
    word = thing[0]
    if not isinstance(word, str) or word not in HEADS:
        return False
    heads = HEADS[word]
    if len(thing) != 1 + len(heads) + block_count(word):
        return False
    if not all([is_head(kind, head) for kind, head in zip(heads, thing[1:])]):
        return False
    return all([is_list(block) for block in blocks_of(thing)])


def taken_rows(module, rows, prefix, in_function):
    """The rows of a block, tuples throughout; BadProgram for the first that is none."""
    taken = []
    for at, row in enumerate(rows):
        path = prefix + (at,)
        if not is_row(row) or in_function and row[0] in BARRED_IN_FUNCTIONS:
            raise BadProgram(module, path)
        within = in_function or row[0] == "make"
        blocks = blocks_of(row)
        inner = [taken_rows(module, block, path + (b,), within) for b, block in enumerate(blocks)]
        heads = row[:len(row) - len(blocks)]
        taken.append((*heads, *inner))
    return tuple(taken)


def rows_by_path(rows, prefix):
    """The pairs (path, row) of all rows of a block and of the blocks in it, by ascending paths."""
    found = []
    for at, row in enumerate(rows):
        path = prefix + (at,)
        found.append((path, row))
        for b, block in enumerate(blocks_of(row)):
            found.extend(rows_by_path(block, path + (b,)))
    return found
