"""All late sets of a library: which are alike, which nobody notices, and the best of these.

A late set is told as the ascending list of its places; all of them are ordered
by their length, those of one length as lists.
"""

from firsttouch.clients import taken_client
from firsttouch.eyes import require_eye
from firsttouch.lates import Late, require_late
from firsttouch.surveys import Survey
from firsttouch.worlds import World


def classes(program, *, eye="all", table=False, most=100):
    """The classes of late sets that no client can tell from one another."""
    return Survey(program, eye, table, most).classes()


def hidden(program, *, eye="all", table=False, most=100):
    """The late sets that nobody notices."""
    # The empty set is the least of all, so its class is the first.
    return classes(program, eye=eye, table=table, most=most)[0]


def greatest(program, *, eye="all", table=False, most=100):
    """The hidden set of most places, and for each set of more places the least client that notices it."""
    survey = Survey(program, eye, table, most)
    best = max(survey.classes()[0], key=len)
    return (best, survey.noticed_above(len(best)))


def nearest(program, late, *, eye="all", table=False, most=100):
    """The hidden set that differs from a late set in the fewest places."""
    require_late(program, late)
    wished = late.places()
    found = hidden(program, eye=eye, table=table, most=most)
    return min(found, key=lambda places: len(set(places) ^ set(wished)))


def quickest(program, clients, *, eye="all", table=False, most=100):
    """The hidden set with which clients begin the fewest rows, and how many these are."""
    require_eye(eye)
    taken = [taken_client(client) for client in clients]
    found = hidden(program, eye=eye, table=table, most=most)
    counted = [(places, rows_begun(program, places, taken)) for places in found]
    return min(counted, key=lambda pair: pair[1])


def rows_begun(program, places, clients):
    """How many rows clients begin in all, each in a new world with these places late."""
    begun = 0
    for client in clients:
        world = World(program, Late.of(program, places))
        for deed in client:
            world.do(deed)
        begun += world.begun()
    return begun
