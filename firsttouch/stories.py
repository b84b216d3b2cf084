"""What clients meet on their way: where answers become unlike, and which promises are kept."""

from firsttouch.clients import taken_client
from firsttouch.lates import Late, require_late
from firsttouch.machine import Machine


def story(program, late, client):
    """The first thing that a client finds unlike without late places and with a late set, or None."""
    require_late(program, late)
    deeds = taken_client(client)
    early = Machine(program, Late.empty(program))
    later = Machine(program, late)
    for at, deed in enumerate(deeds):
        answer = early.answer(deed)
        other = later.answer(deed)
        if answer != other:
            nth = first_unlike(answer[0], other[0])
            thing, rows = told_there(early, answer, nth)
            other_thing, other_rows = told_there(later, other, nth)
            return (at, nth, thing, other_thing, rows, other_rows)
    return None


def touches(program, late, client):
    """The promises that are kept while a client does its deeds in a new world with a late set."""
    require_late(program, late)
    deeds = taken_client(client)
    machine = Machine(program, late)
    found = []
    for at, deed in enumerate(deeds):
        machine.answer(deed)
        found.extend([(at, module, name, rows) for module, name, rows in machine.kept])
    return found


def first_unlike(events, others):
    """The number of the first event that is unlike, or that is there but once, or None."""
    for at, (event, other) in enumerate(zip(events, others)):
        if event != other:
            return at
    if len(events) != len(others):
        return min(len(events), len(others))
    return None


def told_there(machine, answer, nth):
    """What was told last by a machine as its event of this number, else as its end; and the rows then."""
    events, end = answer
    if nth is None or nth >= len(events):
        return (end, machine.running)
    return (events[nth], machine.scenes[nth])
