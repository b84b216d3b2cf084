"""Random libraries within the limits of [5], from a seeded source of chance."""

MODULES = ['a', 'b', 'c', 'd']
NAMES = ['x', 'y', 'z', 'f']
PLAIN = ['load', 'pick', 'put', 'copy', 'part', 'drop', 'say', 'tell', 'seen', 'fail']
MOST_ROWS = 24
MOST_PLACES = 6


class Rows:
    """Makes rows, and counts them and the places among them."""

    def __init__(self, chance):
        self.chance = chance
        self.rows = 0
        self.places = 0

    def name(self):
        return self.chance.choice(NAMES)

    def module(self):
        # Now and then a module that the library may not have.
        return self.chance.choice(MODULES[:3] + MODULES[:2] + ['d'])

    def block(self, most, depth, in_function):
        rows = []
        for _ in range(self.chance.randint(0, most)):
            if self.rows < MOST_ROWS:
                rows.append(self.row(depth, in_function))
        return rows

    def word(self, depth, in_function):
        words = PLAIN + ['load', 'pick', 'pick', 'put', 'tell']
        if depth < 3:
            words = words + ['when', 'try', 'try']
            if not in_function:
                words = words + ['make', 'make']
        if not in_function:
            words = words + ['call', 'call']
        if self.places == MOST_PLACES:
            words = [word for word in words if word not in ('load', 'pick')]
        return self.chance.choice(words)

    def row(self, depth, in_function):
        self.rows += 1
        word = self.word(depth, in_function)
        number = self.chance.randint(-2, 2)
        self.places += word in ('load', 'pick')
        if word == 'make':
            return ('make', self.name(), self.block(3, depth + 1, True))
        if word == 'when':
            return ('when', self.name(), self.block(2, depth + 1, in_function),
                    self.block(2, depth + 1, in_function))
        if word == 'try':
            return ('try', self.block(3, depth + 1, in_function),
                    self.block(2, depth + 1, in_function))
        things = {
            'load': (self.name(), self.module()), 'seen': (self.name(), self.module()),
            'pick': (self.name(), self.module(), self.name()), 'put': (self.name(), number),
            'part': (self.name(), self.name(), self.name()), 'copy': (self.name(), self.name()),
            'say': (number,), 'fail': (number,),
        }
        return (word, *things.get(word, (self.name(),)))


def random_library(chance):
    rows = Rows(chance)
    modules = MODULES[:chance.randint(2, 4)]
    return {module: rows.block(8, 0, False) for module in modules}


def random_places(chance, program):
    return [place for place in program.places() if chance.random() < 0.6]


def random_deeds(chance, count):
    deeds = []
    for _ in range(count):
        word = chance.choice(['load', 'look', 'look', 'call', 'seen'])
        module = chance.choice(MODULES)
        if word in ('look', 'call'):
            deeds.append((word, module, chance.choice(NAMES)))
        else:
            deeds.append((word, module))
    return deeds
