"""Late sets: which imports of a library are put off."""

from firsttouch.errors import BadPlace, OtherProgram
from firsttouch.kinds import as_place


def require_late(program, late):
    """OtherProgram if a late set is not of this very library."""
    if late.program != program:
        raise OtherProgram()


class Late:
    """Some places of a library, ascending. It does not change.

    It is made by `whole`, `empty` and `of`, which see to it that the places
    are the library's, ascending, none of them twice.
    """

    def __init__(self, program, places):
        self.program = program
        self._places = tuple(places)

    @classmethod
    def whole(cls, program):
        return cls(program, program.places())

    @classmethod
    def empty(cls, program):
        return cls(program, ())

    @classmethod
    def of(cls, program, places):
        known = program.places()
        found = []
        for thing in places:
            place = as_place(thing)
            if place not in known:
                raise BadPlace(thing)
            found.append(place)
        return cls(program, sorted(set(found)))

    def places(self):
        return list(self._places)

    def __contains__(self, place):
        return as_place(place) in self._places

    def __len__(self):
        return len(self._places)

    def __or__(self, other):
        require_late(self.program, other)
        return Late(self.program, sorted(set(self._places) | set(other._places)))

    def __and__(self, other):
        require_late(self.program, other)
        return Late(self.program, sorted(set(self._places) & set(other._places)))

    def __sub__(self, other):
        require_late(self.program, other)
        return Late(self.program, sorted(set(self._places) - set(other._places)))
