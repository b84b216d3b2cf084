"""Random libraries within the limits of [5], from a seeded source of chance."""

MODULES = ['a', 'b', 'c', 'd']
NAMES = ['x', 'y', 'z', 'f']
PLAIN = ['load', 'pick', 'put', 'copy', 'part', 'drop', 'say', 'tell', 'seen', 'fail']
MOST_ROWS = 24
MOST_PLACES = 6


class Rows:
    """Makes rows, and counts them and the places among them."""

    def __init__(self, chance):
        self.chance = chance
        self.rows = 0
        self.places = 0

    def name(self):
        return self.chance.choice(NAMES)

    def module(self):
        # Now and then a module that the library may not have.
        return self.chance.choice(MODULES[:3] + MODULES[:2] + ['d'])

    def block(self, most, depth, in_function):
        rows = []
        for _ in range(self.chance.randint(0, most)):
            if self.rows < MOST_ROWS:
                rows.append(self.row(depth, in_function))
        return rows

    def word(self, depth, in_function):
        words = PLAIN + ['load', 'pick', 'pick', 'put', 'tell']
        if depth < 3:
            words = words + ['when', 'try', 'try']
            if not in_function:
                words = words + ['make', 'make']
        if not in_function:
            words = words + ['call', 'call']
        if self.places == MOST_PLACES:
            words = [word for word in words if word not in ('load', 'pick')]
        return self.chance.choice(words)

    def row(self, depth, in_function):
        self.rows += 1
        word = self.word(depth, in_function)
        number = self.chance.randint(-2, 2)
        self.places += word in ('load', 'pick')
        if word == 'make':
            return ('make', self.name(), self.block(3, depth + 1, True))
        if word == 'when':
            return ('when', self.name(), self.block(2, depth + 1, in_function),
                    self.block(2, depth + 1, in_function))
        if word == 'try':
            return ('try', self.block(3, depth + 1, in_function),
                    self.block(2, depth + 1, in_function))
        things = {
            'load': (self.name(), self.module()), 'seen': (self.name(), self.module()),
            'pick': (self.name(), self.module(), self.name()), 'put': (self.name(), number),
            'part': (self.name(), self.name(), self.name()), 'copy': (self.name(), self.name()),
            'say': (number,), 'fail': (number,),
        }
        return (word, *things.get(word, (self.name(),)))


def random_library(chance):
    rows = Rows(chance)
    modules = MODULES[:chance.randint(2, 4)]
    return {module: rows.block(8, 0, False) for module in modules}


def random_places(chance, program):
    return [place for place in program.places() if chance.random() < 0.6]


def random_deeds(chance, count):
    deeds = []
    for _ in range(count):
        word = chance.choice(['load', 'look', 'look', 'call', 'seen'])
        module = chance.choice(MODULES)
        if word in ('look', 'call'):
            deeds.append((word, module, chance.choice(NAMES)))
        else:
            deeds.append((word, module))
    return deeds


def lively_library(chance):
    """A small library of few places in whose functions imports stand, so that deeds change much."""
    modules = MODULES[:2]
    left = [4]
    library = {}
    for module in modules:
        rows = [lively_row(chance, modules, left) for _ in range(chance.randint(0, 2))]
        for name in ('f', 'g')[:chance.randint(1, 2)]:
            block = [lively_row(chance, modules, left) for _ in range(chance.randint(1, 2))]
            rows.append(('make', name, block))
        if chance.random() < 0.2:
            rows.append(('try', [('call', 'f')], []))
        library[module] = rows
    return library


def lively_row(chance, modules, left):
    """A row that gives x or y something, or tells of it; an import only while places are left."""
    name, other = chance.choice(['xy', 'yx'])
    module = chance.choice(modules)
    words = ['put', 'seen', 'seen', 'copy', 'tell', 'when'] + ['load', 'load', 'pick'] * (left[0] > 0)
    word = chance.choice(words)
    left[0] -= word in ('load', 'pick')
    return {
        'put': ('put', name, chance.randint(0, 1)), 'seen': ('seen', name, module),
        'copy': ('try', [('copy', name, other)], []), 'tell': ('try', [('tell', name)], []),
        'when': ('try', [('when', name, [('drop', name)], [('say', 3)])], []),
        'load': ('load', name, module), 'pick': ('try', [('pick', name, module, other)], []),
    }[word]


def still_library(chance):
    """A library as [32] tells: load, put and make rows, and few others in the blocks of make rows."""
    modules = MODULES[:chance.randint(1, 3)]
    left = [4]

    def simple(name):
        if left[0] > 0 and chance.random() < 0.5:
            left[0] -= 1
            return ('load', name, chance.choice(modules))
        return ('put', name, chance.randint(0, 2))

    def inner(depth):
        name, other = chance.choice(NAMES[:3]), chance.choice(NAMES[:3])
        word = chance.choice(['import', 'copy', 'part', 'drop', 'say', 'tell', 'fail', 'when', 'try'])
        if word in ('when', 'try') and depth == 3:
            word = 'tell'
        if word == 'when':
            return ('when', name, [inner(depth + 1)], [inner(depth + 1)])
        if word == 'try':
            return ('try', [inner(depth + 1), inner(depth + 1)], [inner(depth + 1)])
        rows = {'copy': ('copy', name, other), 'part': ('part', name, other, chance.choice(NAMES)),
                'drop': ('drop', name), 'say': ('say', 1), 'tell': ('tell', name), 'fail': ('fail', 2)}
        return rows.get(word) or simple(name)

    library = {}
    for module in modules:
        rows = [simple(chance.choice(NAMES[:3])) for _ in range(chance.randint(0, 3))]
        if chance.random() < 0.8:
            rows.append(('make', 'f', [inner(2) for _ in range(chance.randint(1, 3))]))
        library[module] = rows
    return library
