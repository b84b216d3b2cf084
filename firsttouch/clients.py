"""Clients: lists of deeds."""

from firsttouch.errors import BadDeed
from firsttouch.kinds import as_deed


def taken_deed(thing):
    """The deed that an object is, a tuple; BadDeed if it is none."""
    deed = as_deed(thing)
    if deed is None:
        raise BadDeed(thing)
    return deed


def taken_client(things):
    """The deeds that the things of a list are; BadDeed for the first that is none."""
    return [taken_deed(thing) for thing in things]


def client_deeds(programs, table):
    """The deeds of a client of worlds of some libraries, ascending."""
    deeds = set()
    for program in programs:
        for module in program.modules():
            deeds.add(("load", module))
            if table:
                deeds.add(("seen", module))
            for name in program.names_of(module):
                deeds.add(("look", module, name))
                deeds.add(("call", module, name))
    return sorted(deeds)
