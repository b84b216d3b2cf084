"""Libraries."""

from firsttouch.errors import BadProgram, BadWord
from firsttouch.kinds import is_list, is_word
from firsttouch.rows import IMPORTING, NAMING, rows_by_path, taken_rows
from firsttouch.texts import Reader, text_of


def taken_modules(modules):
    """The dict from ascending modules to their rows, tuples throughout; BadProgram as told."""
    if not isinstance(modules, dict) or len(modules) == 0:
        raise BadProgram(None, ())
    if not all([is_word(module) for module in list(modules)]):
        raise BadProgram(None, ())
    taken = {}
    for module in sorted(modules):
        rows = modules[module]
        if not is_list(rows):
            raise BadProgram(module, ())
        taken[module] = taken_rows(module, rows, (), False)
    return taken


def blocks_by_prefix(listed):
    """The pairs (path, row) of each block that is not empty, by (module, prefix)."""
    blocks = {}
    for module, pairs in listed.items():
        for path, row in pairs:
            blocks.setdefault((module, path[:-1]), []).append((path, row))
    return {key: tuple(pairs) for key, pairs in blocks.items()}


class Program:
    """A library: modules with their rows. It does not change."""

    def __init__(self, modules):
        self._rows = taken_modules(modules)
        self._listed = {module: rows_by_path(rows, ()) for module, rows in self._rows.items()}
        self._blocks = blocks_by_prefix(self._listed)
        self._places = tuple([
            (module, path)
            for module, listed in self._listed.items()
            for path, row in listed
            if row[0] in IMPORTING
        ])

    def __iter__(self):
        return iter(self._places)

    def places(self):
        return list(self._places)

    def modules(self):
        return list(self._rows)

    def names(self):
        return sorted({name for module in self._rows for name in self.names_of(module)})

    def names_of(self, module):
        self._require(module)
        return sorted({row[1] for _, row in self._listed[module] if row[0] in NAMING})

    def rows(self, module):
        self._require(module)
        return list(self._rows[module])

    def text(self):
        return text_of(self._rows)

    @classmethod
    def read(cls, text):
        return cls(Reader(text).library())

    def has(self, module):
        """Whether a word is one of the modules."""
        return module in self._rows

    def block(self, module, prefix):
        """The pairs (path, row) of the rows of the block with this prefix."""
        return self._blocks.get((module, prefix), ())

    def _require(self, module):
        if not isinstance(module, str) or module not in self._rows:
            raise BadWord(module)
