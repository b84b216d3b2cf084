"""How a library is run: modules are got, names touched, rows run.

A value is told as it is shown: an integer, ("module", word) or
("function", home, path); a promise is ("promise", module) or
("promise", module, part).
"""


class Fault(Exception):
    """What goes wrong in a library; it never leaves a deed."""

    def __init__(self, told):
        super().__init__("something goes wrong in the library")
        self.told = told


def has_word(value, word):
    """Whether a value or promise is of the kind that this word tells."""
    return isinstance(value, tuple) and value[0] == word


class Machine:
    """A library that is run with a late set: its names, its table, and what was counted.

    Of the last deed it keeps the events, for each the rows that were being run
    then, and the promises that were kept. Rows are pairs (module, path), the
    outermost first.
    """

    def __init__(self, program, late):
        self.program = program
        self.late = late
        self.put_off = {place: True for place in late.places()}
        self.spaces = {module: {} for module in program.modules()}
        self.present = {}
        self.entered = []
        self.steps = 0
        self.events = []
        self.scenes = []
        self.kept = []
        self.running = []
        self._keeping = {}

    def doubled(self):
        """Another machine that is as this one is between two deeds."""
        other = Machine(self.program, self.late)
        other.spaces = {module: dict(space) for module, space in self.spaces.items()}
        other.present = dict(self.present)
        other.entered = list(self.entered)
        other.steps = self.steps
        return other

    def answer(self, deed):
        """Do a deed; its answer. Behind it, the rows that are being run are those at its fault."""
        self.events = []
        self.scenes = []
        self.kept = []
        self.running = []
        try:
            end = ("told", self._done(deed))
        except Fault as e:
            end = ("fault", e.told)
        return (tuple(self.events), end)

    def _done(self, deed):
        word = deed[0]
        module = deed[1]
        if word == "seen":
            return self.presence(module)
        self.fetch(module)
        if word == "load":
            return ("module", module)
        value = self.part_of(module, deed[2])
        if word == "look":
            return value
        self.run_function(value, deed[2])
        return None

    def presence(self, module):
        return 1 if module in self.present else 0

    def fetch(self, module):
        """Get a module."""
        if not self.program.has(module):
            raise Fault(("absent", module))
        if module in self.present:
            return
        self.present[module] = True
        self.entered.append(module)
        self.spaces[module] = {}
        try:
            self.run_block(module, ())
        except Fault:
            del self.present[module]
            raise

    def tell(self, value):
        """Let a value, shown, be an event."""
        self.events.append(value)
        self.scenes.append(list(self.running))

    def put(self, home, name, value):
        # The space is asked for anew each time: what ran before may have run the module anew.
        self.spaces[home][name] = value

    def drop(self, home, name):
        if name not in self.spaces[home]:
            raise Fault(("name", name))
        del self.spaces[home][name]

    def touch(self, module, name):
        """The value that is found when a name of a module is touched."""
        if name not in self.spaces[module]:
            raise Fault(("name", name))
        value = self.spaces[module][name]
        if has_word(value, "promise"):
            return self._keep(module, name, value)
        return value

    def part_of(self, module, part):
        """The value that is found as a part of a module; the module is not got."""
        if part not in self.spaces[module]:
            raise Fault(("part", module, part))
        return self.touch(module, part)

    def _keep(self, module, name, promise):
        touched = (module, name)
        if touched in self._keeping:
            raise Fault(("ring", module, name))
        self._keeping[touched] = True
        self.kept.append((module, name, list(self.running)))
        try:
            value = self.promised(promise)
        except Fault:
            del self._keeping[touched]
            raise
        del self._keeping[touched]
        # By now the name may be gone or be something else, which then stays.
        if self.spaces[module].get(name) == promise:
            self.put(module, name, value)
        return value

    def promised(self, promise):
        """Get the module of a promise; the value that was promised."""
        module = promise[1]
        self.fetch(module)
        if len(promise) == 2:
            return ("module", module)
        return self.part_of(module, promise[2])

    def run_function(self, value, name):
        """Run the function that was found under a name."""
        if not has_word(value, "function"):
            raise Fault(("kind", name))
        _, home, path = value
        self.run_block(home, path + (0,))

    def run_block(self, home, prefix):
        for path, row in self.program.block(home, prefix):
            self.steps += 1
            self.running.append((home, path))
            action = ACTIONS[row[0]]
            action(self, home, path, row)
            # Not behind a fault: where it came is told by the rows that are left here.
            self.running.pop()


def run_import(machine, home, path, row):
    """Run a load or pick row: it is early what keeping its promise is later."""
    value = ("promise",) + row[2:]
    if (home, path) not in machine.put_off:
        value = machine.promised(value)
    machine.put(home, row[1], value)


def run_put(machine, home, path, row):
    machine.put(home, row[1], row[2])


def run_copy(machine, home, path, row):
    value = machine.touch(home, row[2])
    machine.put(home, row[1], value)


def run_part(machine, home, path, row):
    _, name, owner, part = row
    value = machine.touch(home, owner)
    if not has_word(value, "module"):
        raise Fault(("kind", owner))
    value = machine.part_of(value[1], part)
    machine.put(home, name, value)


def run_drop(machine, home, path, row):
    machine.drop(home, row[1])


def run_say(machine, home, path, row):
    machine.tell(row[1])


def run_tell(machine, home, path, row):
    value = machine.touch(home, row[1])
    machine.tell(value)


def run_seen(machine, home, path, row):
    machine.put(home, row[1], machine.presence(row[2]))


def run_fail(machine, home, path, row):
    raise Fault(("fail", row[1]))


def run_make(machine, home, path, row):
    machine.put(home, row[1], ("function", home, path))


def run_call(machine, home, path, row):
    value = machine.touch(home, row[1])
    machine.run_function(value, row[1])


def run_when(machine, home, path, row):
    value = machine.touch(home, row[1])
    if not isinstance(value, int):
        raise Fault(("kind", row[1]))
    block = 1 if value == 0 else 0
    machine.run_block(home, path + (block,))


def run_try(machine, home, path, row):
    depth = len(machine.running)
    try:
        machine.run_block(home, path + (0,))
    except Fault:
        del machine.running[depth:]
        machine.run_block(home, path + (1,))


ACTIONS = {
    "load": run_import,
    "pick": run_import,
    "put": run_put,
    "copy": run_copy,
    "part": run_part,
    "drop": run_drop,
    "say": run_say,
    "tell": run_tell,
    "seen": run_seen,
    "fail": run_fail,
    "make": run_make,
    "call": run_call,
    "when": run_when,
    "try": run_try,
}
