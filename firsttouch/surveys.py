"""What clients find with all late sets of a library."""

from firsttouch.clients import client_deeds
from firsttouch.courses import Course, marks_of
from firsttouch.eyes import require_eye
from firsttouch.lates import Late
from firsttouch.pairs import Pairs
from firsttouch.worlds import World


def order_key(places):
    """Late sets are ordered by their length, those of one length as lists."""
    return (len(places), places)


def all_sets(program):
    """All late sets of a library, as the lists of their places, in their order: the empty one is first."""
    found = [[]]
    for place in program.places():
        found = found + [places + [place] for places in found]
    return sorted(found, key=order_key)


class Survey:
    """All late sets of a library, and for each the states that clients lead to."""

    def __init__(self, program, eye, table, most):
        require_eye(eye)
        self._eye = eye
        self._deeds = client_deeds([program], table)
        self._sets = all_sets(program)
        self._courses = [Course(World(program, Late.of(program, places))) for places in self._sets]
        for course in self._courses:
            course.explore(self._deeds, most)

    def classes(self):
        """The late sets that no client can tell from one another, class by class."""
        marks = marks_of(self._courses, self._deeds, self._eye)
        found = {}
        for places, marked in zip(self._sets, marks):
            found.setdefault(marked[0], []).append(places)
        return list(found.values())

    def noticed_above(self, size):
        """The pairs (places, client) of the late sets of more places, and the least clients that notice them."""
        early = self._courses[0]
        found = []
        for places, course in zip(self._sets, self._courses):
            if len(places) > size:
                client = Pairs(course, early, self._deeds, self._eye).least_parting(None)
                found.append((places, client))
        return found
