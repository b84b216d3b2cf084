"""Whether clients can tell two worlds apart, and papers that show that they cannot."""

from firsttouch.clients import taken_client
from firsttouch.kinds import as_deed, is_integer, is_list
from firsttouch.pairs import pairs_of
from firsttouch.worlds import World


def parting(one, other, *, eye="all", table=False, most=100):
    """The least client whose last answers of two worlds are unlike, or None."""
    return pairs_of(one, other, eye, table).least_parting(most)


def notice(program, late, *, eye="all", table=False, most=100):
    """The least client that notices a late set, or None."""
    return late_pairs(program, late, eye, table).least_parting(most)


def paper(program, late, *, eye="all", table=False, most=100):
    """The paper that shows that no client notices a late set, or None if one does."""
    pairs = late_pairs(program, late, eye, table)
    if pairs.least_parting(most) is not None:
        return None
    return pairs.as_paper()


def paper_holds(program, late, paper, *, eye="all", table=False):
    """Whether an object is a paper that shows that no client notices a late set."""
    pairs = late_pairs(program, late, eye, table)
    deeds = pairs.deeds()
    if not is_paper(paper, len(deeds)):
        return False
    ends = [pairs.walk(taken_client(client)) for client, _ in paper]
    for pair, (_, behind) in zip(ends, paper):
        for deed, place in zip(deeds, behind):
            if pairs.step(pair, deed) != (True, ends[place]):
                return False
    return True


def warm_up(one, other, *, eye="all", table=False, most=100):
    """The least client behind which no client parts two worlds, or None."""
    return pairs_of(one, other, eye, table).least_settling(most)


def late_pairs(program, late, eye, table):
    """The pairs of a new world with a late set and a new one without late places."""
    return pairs_of(World(program, late), World(program), eye, table)


def is_paper(thing, width):
    """Whether an object has the form of a paper, where clients have so many deeds to choose from."""
    if not is_list(thing) or not all([is_list(pair) and len(pair) == 2 for pair in thing]):
        return False
    if not all([is_client(client) and is_behind(behind, width, len(thing)) for client, behind in thing]):
        return False
    return len(thing) > 0 and len(thing[0][0]) == 0


def is_client(thing):
    return is_list(thing) and all([as_deed(deed) is not None for deed in thing])


def is_behind(thing, width, size):
    """Whether an object is a list of so many places of a paper of this size."""
    if not is_list(thing) or len(thing) != width:
        return False
    return all([is_integer(place) and 0 <= place < size for place in thing])
