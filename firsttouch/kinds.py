"""What kind of thing an object is: integers, words, lists, places, deeds."""

LETTERS = "abcdefghijklmnopqrstuvwxyz"
LONGEST_WORD = 8

DEED_LENGTHS = {"load": 2, "look": 3, "call": 3, "seen": 2}


def is_integer(thing):
    return isinstance(thing, int) and not isinstance(thing, bool)


def is_list(thing):
    """Lists and tuples stand for one another wherever one is told."""
    return isinstance(thing, (list, tuple))


def is_word(thing):
    if not isinstance(thing, str) or not 1 <= len(thing) <= LONGEST_WORD:
        return False
    return all([letter in LETTERS for letter in thing])


def as_place(thing):
    """The place that an object is, tuples throughout, or None if it has not the form of one."""
    if not is_list(thing) or len(thing) != 2:
        return None
    module, path = thing
    if not is_word(module) or not is_list(path):
        return None
    if not all([is_integer(number) for number in path]):
        return None
    return (module, tuple(path))


def as_deed(thing):
    """The deed that an object is, a tuple, or None if it is no deed."""
    if not is_list(thing) or not all([is_word(word) for word in thing]):
        return None
    if len(thing) == 0 or len(thing) != DEED_LENGTHS.get(thing[0], 0):
        return None
    return tuple(thing)
