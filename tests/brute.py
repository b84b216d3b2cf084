"""What the document tells of clients, word for word and slowly: clients are done anew each time.

A world is told by a function that makes it, so that each client meets a new one.
"""

import collections
import itertools

from firsttouch.lates import Late
from firsttouch.worlds import World


class Many(Exception):
    """There are more pairs of states than may be looked at."""


def maker(program, places=(), ahead=()):
    """A function that makes a world with these places late, behind some deeds."""
    def make():
        return behind(lambda: World(program, Late.of(program, places)), ahead)
    return make


def behind(make, client):
    world = make()
    for deed in client:
        world.do(deed)
    return world


def deeds_of(programs, table):
    deeds = []
    for word in sorted({word for program in programs for word in program.modules()}):
        names = {name for program in programs if word in program.modules()
                 for name in program.names_of(word)}
        deeds += [('load', word)] + [(verb, word, name) for verb in ('look', 'call') for name in names]
        deeds += [('seen', word)] if table else []
    return sorted(deeds)


def alike(eye, answer, other):
    if eye == 'all':
        return answer == other
    if eye == 'bag':
        counts = [collections.Counter(events) for events in (answer[0], other[0])]
        return counts[0] == counts[1] and answer[1] == other[1]
    return answer[1] == other[1]


def led(one, other, client):
    """The answers to the last deed of a client in both worlds, and the pair of states behind it."""
    worlds = [behind(make, client[:-1]) for make in (one, other)]
    answers = [world.do(client[-1]) for world in worlds]
    return answers, tuple(world.state() for world in worlds)


def least_parting(one, other, deeds, eye, most):
    """As [23] tells it. Of the clients that lead to one pair of states the least alone is gone on from."""
    pairs = {(one().state(), other().state())}
    clients = [()]
    while clients:
        if len(pairs) > most:
            raise Many
        parting, longer = [], {}
        for client in (client + (deed,) for client in clients for deed in deeds):
            answers, pair = led(one, other, client)
            if not alike(eye, *answers):
                parting.append(client)
            elif pair not in pairs:
                longer[pair] = min(client, longer.get(pair, client))
        if parting:
            return list(min(parting))
        pairs |= set(longer)
        clients = sorted(longer.values())
    return None


def all_pairs(one, other, deeds):
    """The least client to each pair of states that any clients lead to."""
    pairs = {(one().state(), other().state()): ()}
    clients = [()]
    while clients:
        longer = {}
        for client in (client + (deed,) for client in clients for deed in deeds):
            _, pair = led(one, other, client)
            if pair not in pairs:
                longer[pair] = min(client, longer.get(pair, client))
        pairs.update(longer)
        clients = sorted(longer.values())
    return pairs


def least_warming(one, other, deeds, eye, pairs):
    """As [31] tells it, over all pairs of states."""
    for client in sorted(pairs.values(), key=lambda client: (len(client), client)):
        parted = least_parting(lambda: behind(one, client), lambda: behind(other, client), deeds, eye, 10 ** 6)
        if parted is None:
            return list(client)
    return None


def all_sets(program):
    places = program.places()
    return [list(chosen) for size in range(len(places) + 1)
            for chosen in itertools.combinations(places, size)]


def state_count(make, deeds):
    """How many states clients lead to."""
    return len({pair[0] for pair in all_pairs(make, make, deeds)})


def classes(program, deeds, eye):
    """As [27] tells it, by clients that part worlds."""
    found = []
    for places in all_sets(program):
        for known in found:
            one, other = maker(program, places), maker(program, known[0])
            if least_parting(one, other, deeds, eye, 10 ** 6) is None:
                known.append(places)
                break
        else:
            found.append([places])
    return found
