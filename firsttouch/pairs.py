"""The pairs of states that two worlds come to under the same clients."""

from firsttouch.clients import client_deeds
from firsttouch.courses import Course, marks_of
from firsttouch.errors import TooMany
from firsttouch.eyes import alike, require_eye


class Pairs:
    """The pairs of states of two courses that clients lead to, in the order of the least such clients.

    The pairs are followed in the order in which they are met, by ascending
    deeds, and so they are met in the order of their least clients.
    """

    def __init__(self, one, other, deeds, eye):
        self._one = one
        self._other = other
        self._deeds = deeds
        self._eye = eye
        self._pairs = []
        self._clients = []
        self._behind = []
        self._numbers = {}
        self._meet((0, 0), [])

    def deeds(self):
        """The deeds of a client, ascending."""
        return list(self._deeds)

    def step(self, pair, deed):
        """What a deed does to a pair: whether the answers are alike, and the pair it leads to."""
        answer, to = self._one.step(pair[0], deed)
        other, beyond = self._other.step(pair[1], deed)
        return (alike(self._eye, answer, other), (to, beyond))

    def walk(self, client):
        """The pair behind a client."""
        return (self._one.walk(client), self._other.walk(client))

    def least_parting(self, most):
        """The least client with unlike last answers, or None; TooMany unless most is None.

        Clients of one length are looked at together, since the pairs behind
        longer ones do not count if one of these parts.
        """
        begin = 0
        while begin < len(self._pairs):
            end = len(self._pairs)
            if most is not None and end > most:
                raise TooMany(most)
            for number in range(begin, end):
                deed = self._unlike(number)
                if deed is not None:
                    return self._clients[number] + [deed]
            for number in range(begin, end):
                self._follow(number)
            begin = end
        return None

    def least_settling(self, most):
        """The least client behind which no client parts, or None; TooMany as told."""
        number = 0
        while number < len(self._pairs):
            if len(self._pairs) > most:
                raise TooMany(most)
            self._follow(number)
            number += 1
        marks, others = marks_of([self._one, self._other], self._deeds, self._eye)
        for (one, other), client in zip(self._pairs, self._clients):
            if marks[one] == others[other]:
                return list(client)
        return None

    def as_paper(self):
        """The pairs (client, behind) of all pairs of states, which are all followed by now."""
        return [(list(client), list(behind)) for client, behind in zip(self._clients, self._behind)]

    def _unlike(self, number):
        """The first deed with unlike answers, or None."""
        for deed in self._deeds:
            same, _ = self.step(self._pairs[number], deed)
            if not same:
                return deed
        return None

    def _follow(self, number):
        """Meet all pairs to which single deeds lead."""
        behind = []
        for deed in self._deeds:
            _, pair = self.step(self._pairs[number], deed)
            if pair not in self._numbers:
                self._meet(pair, self._clients[number] + [deed])
            behind.append(self._numbers[pair])
        self._behind.append(behind)

    def _meet(self, pair, client):
        self._numbers[pair] = len(self._pairs)
        self._pairs.append(pair)
        self._clients.append(client)


def pairs_of(one, other, eye, table):
    """The pairs of two worlds; BadEye."""
    require_eye(eye)
    deeds = client_deeds([one.program, other.program], table)
    return Pairs(Course(one), Course(other), deeds, eye)
