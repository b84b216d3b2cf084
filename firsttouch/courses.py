"""The states that worlds come to."""

from firsttouch.errors import TooMany
from firsttouch.eyes import view


class Course:
    """The states that a world comes to, numbered from 0 on as they are met.

    Worlds of one library and one late set that have equal states answer alike
    for ever, so that one world for each state will do, and each deed is done
    there but once.
    """

    def __init__(self, world):
        self._worlds = []
        self._numbers = {}
        self._steps = {}
        self._number_of(world.twin())

    def size(self):
        """How many states were met."""
        return len(self._worlds)

    def step(self, number, deed):
        """What a deed does in a state: its answer, and the number of the state that it leads to."""
        key = (number, deed)
        if key not in self._steps:
            world = self._worlds[number].twin()
            answer = world.do(deed)
            self._steps[key] = (answer, self._number_of(world))
        return self._steps[key]

    def walk(self, client):
        """The number of the state behind a client."""
        number = 0
        for deed in client:
            _, number = self.step(number, deed)
        return number

    def explore(self, deeds, most):
        """Meet all states that clients of these deeds lead to; TooMany if they are more than most."""
        at = 0
        while at < self.size():
            if self.size() > most:
                raise TooMany(most)
            for deed in deeds:
                self.step(at, deed)
            at += 1

    def _number_of(self, world):
        state = world.state()
        if state not in self._numbers:
            self._numbers[state] = len(self._worlds)
            self._worlds.append(world)
        return self._numbers[state]


def numbered(keys):
    """Numbers for keys, equal ones for equal keys, told as the keys come."""
    known = {}
    numbers = []
    for key in keys:
        known.setdefault(key, len(known))
        numbers.append(known[key])
    return numbers


def marks_of(courses, deeds, eye):
    """For each explored course the list of the marks of its states.

    States of any of the courses have equal marks where no client tells them
    apart. They are told apart first by single deeds, then again and again by
    the marks to which deeds lead, until that tells no more of them apart.
    """
    views = []
    behind = []
    starts = []
    for course in courses:
        start = len(behind)
        starts.append(start)
        for number in range(course.size()):
            steps = [course.step(number, deed) for deed in deeds]
            views.append(tuple([view(eye, answer) for answer, _ in steps]))
            behind.append([start + to for _, to in steps])
    marks = numbered(views)
    finer = refined(marks, behind)
    while finer != marks:
        marks = finer
        finer = refined(marks, behind)
    return [marks[first:first + met.size()] for first, met in zip(starts, courses)]


def refined(marks, behind):
    """Marks that tell apart, too, what leads to unlike marks."""
    return numbered([(mark, tuple([marks[at] for at in led])) for mark, led in zip(marks, behind)])
