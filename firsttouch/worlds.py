"""Worlds: libraries that are used by deeds."""

from firsttouch.clients import taken_deed
from firsttouch.errors import BadWord
from firsttouch.kinds import is_word
from firsttouch.lates import Late, require_late
from firsttouch.machine import Machine


def require_words(things):
    for thing in things:
        if not is_word(thing):
            raise BadWord(thing)


class World:
    """A library with a late set, as the deeds done so far have left it."""

    def __init__(self, program, late=None):
        chosen = Late.empty(program) if late is None else late
        require_late(program, chosen)
        self.program = program
        self.late = chosen
        self._machine = Machine(program, chosen)

    def load(self, module):
        require_words([module])
        return self._machine.answer(("load", module))

    def look(self, module, part):
        require_words([module, part])
        return self._machine.answer(("look", module, part))

    def call(self, module, part):
        require_words([module, part])
        return self._machine.answer(("call", module, part))

    def seen(self, module):
        require_words([module])
        return self._machine.answer(("seen", module))

    def do(self, deed):
        return self._machine.answer(taken_deed(deed))

    def table(self):
        return sorted(self._machine.present)

    def ran(self):
        return list(self._machine.entered)

    def begun(self):
        return self._machine.steps

    def twin(self):
        other = World(self.program, self.late)
        other._machine = self._machine.doubled()
        return other

    def state(self):
        spaces = self._machine.spaces
        named = [tuple(sorted(spaces[module].items())) for module in self.program.modules()]
        return (tuple(self.table()), tuple(named))
