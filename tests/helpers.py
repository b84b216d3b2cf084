"""What several test files need."""

import textwrap

from firsttouch.lates import Late
from firsttouch.programs import Program
from firsttouch.worlds import World


def library(text):
    """The library of a text that may stand further in, as in a test."""
    return Program.read(textwrap.dedent(text).lstrip('\n'))


def early(text):
    return World(library(text))


def late(text, *places):
    """A world in which the imports at these places are late."""
    program = library(text)
    return World(program, Late.of(program, places))


def all_late(text):
    program = library(text)
    return World(program, Late.whole(program))


def told(shown, *events):
    return (events, ('told', shown))


def fault(*parts, events=()):
    return (tuple(events), ('fault', parts))


def module(word):
    return ('module', word)


def function(home, *path):
    return ('function', home, path)


# Objects that are no word, whatever is asked.
NO_WORDS = [
    None, True, False, 0, 5, '', 'A', 'aB', 'a1', 'a b', ' a', 'a\n', '_', '-',
    'abcdefghi', (), [], {}, ['a'], ('a',), {'a': 1}, [[]], {1: [2]},
]

# Objects that are no eye, some of them nearly one.
NO_EYES = [
    None, True, False, 0, 1, '', 'All', 'all ', ' all', 'al', 'alll', 'bags', 'value', 'ALL', 'none',
    ('all',), ['all'], ['bag', 'values'], {'all': 1}, {}, (), [], [[]], ('all', 'bag', 'values'),
]


def whole(text):
    """The library of a text, and the late set of all its places."""
    program = library(text)
    return program, Late.whole(program)


def shape(world):
    """All that a world tells of itself."""
    return (world.state(), world.table(), world.ran(), world.begun())
