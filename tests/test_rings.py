"""[33]: rings."""

import random
import unittest

from firsttouch.lates import Late
from firsttouch.programs import Program
from firsttouch.rings import rings
from firsttouch.worlds import World
from tests.helpers import library
from tests.samples import random_deeds, random_library, random_places


def links(*pairs, modules='abcd'):
    """A library in which modules name modules, one of each pair the other."""
    rows = {word: [] for word in modules}
    for word, other in pairs:
        rows[word].append(('load', 'x', other))
    return Program(rows)


class TestRings(unittest.TestCase):

    def test_none(self):
        self.assertEqual(rings(links()), [])
        self.assertEqual(rings(links('ab', 'bc', 'cd', 'ad', 'ac')), [])
        self.assertEqual(rings(program=links('ba', 'cb')), [])

    def test_a_module_that_names_itself(self):
        self.assertEqual(rings(links('aa')), [['a']])
        self.assertEqual(rings(links('cc', 'bb', 'ab')), [['b'], ['c']])
        self.assertEqual(rings(links('cc', modules='c')), [['c']])

    def test_rings_of_several(self):
        self.assertEqual(rings(links('ab', 'ba')), [['a', 'b']])
        self.assertEqual(rings(links('ab', 'bc', 'ca')), [['a', 'b', 'c']])
        self.assertEqual(rings(links('ad', 'da', 'bc', 'cb')), [['a', 'd'], ['b', 'c']])
        self.assertEqual(rings(links('ad', 'dc', 'ca', 'bb', 'ba')), [['a', 'c', 'd'], ['b']])

    def test_the_greatest_sets_alone(self):
        # a and b lead to each other, and so do b and c, and each names itself.
        self.assertEqual(rings(links('ab', 'ba', 'bc', 'cb', 'aa', 'bb', 'cc')), [['a', 'b', 'c']])
        self.assertEqual(rings(links('ab', 'bc', 'cd', 'da', 'ac')), [['a', 'b', 'c', 'd']])

    def test_rings_that_lead_to_rings(self):
        self.assertEqual(rings(links('ab', 'ba', 'bc', 'cd', 'dc')), [['a', 'b'], ['c', 'd']])
        self.assertEqual(rings(links('ba', 'ab', 'da', 'cd', 'cc')), [['a', 'b'], ['c']])

    def test_a_module_between_rings_is_in_none(self):
        self.assertEqual(rings(links('aa', 'ab', 'bc', 'cc')), [['a'], ['c']])

    def test_absent_modules(self):
        self.assertEqual(rings(links('ab', 'bz', 'az')), [])
        self.assertEqual(rings(links('az', 'aa', 'bz')), [['a']])

    def test_rows_wherever_they_stand(self):
        for row in ('load x b', 'pick x b y', 'make f\n    load x b', 'make f\n    pick x b y',
                    'when n\n    load x b\n  else\n    nothing', 'when n\n    nothing\n  else\n    load x b',
                    'try\n    nothing\n  else\n    pick x b b',
                    'try\n    make f\n      when n\n        nothing\n      else\n        load x b\n'
                    '  else\n    nothing'):
            program = library('module a\n  %s\nmodule b\n  pick x a y\n' % row)
            self.assertEqual(rings(program), [['a', 'b']], row)

    def test_other_rows_lead_nowhere(self):
        # Neither do names of load and pick rows, nor parts.
        for row in ('seen x b', 'copy b b', 'part b b b', 'tell b', 'drop b', 'call b', 'put b 1',
                    'load b c', 'pick b c b', 'pick b c a'):
            program = library('module a\n  %s\nmodule b\n  load x a\nmodule c\n  nothing\n' % row)
            self.assertEqual(rings(program), [], row)

    def test_what_is_told_is_new(self):
        program = links('ab', 'ba')
        told = rings(program)
        self.assertEqual([type(told), type(told[0])], [list, list])
        told[0].clear()
        self.assertEqual(rings(program), [['a', 'b']])

    def test_as_told_word_for_word(self):
        chance = random.Random(33)
        for _ in range(300):
            pairs = [word + other for word in 'abcd' for other in 'abcdz' if chance.random() < 0.25]
            leads = set(pairs)
            for middle in 'abcd':
                leads |= {word + other for word in 'abcd' for other in 'abcd'
                          if word + middle in leads and middle + other in leads}
            sets = {tuple(other for other in 'abcd' if word + other in leads and other + word in leads)
                    for word in 'abcd'}
            self.assertEqual(rings(links(*pairs)), [list(ring) for ring in sorted(sets) if ring])

    def test_a_ring_that_comes_as_a_fault_names_a_module_of_a_ring(self):
        chance = random.Random(34)
        found = 0
        for _ in range(1500):
            program = Program(random_library(chance))
            world = World(program, Late.of(program, random_places(chance, program)))
            within = [word for ring in rings(program) for word in ring]
            for deed in random_deeds(chance, 5):
                end, told = world.do(deed)[1]
                if end == 'fault' and told[0] == 'ring':
                    found += 1
                    self.assertIn(told[1], within)
        self.assertGreater(found, 5)


if __name__ == '__main__':
    unittest.main()
