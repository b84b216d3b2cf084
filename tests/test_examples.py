"""[34] to [36], word for word."""

import unittest

from firsttouch.lates import Late
from firsttouch.parting import notice
from firsttouch.programs import Program
from firsttouch.sets import classes, hidden
from firsttouch.stories import story
from firsttouch.worlds import World

LATE_B = [('a', (0,))]
LATE_C = [('a', (1,))]
BOTH = [('a', (0,)), ('a', (1,))]


class TestExamples(unittest.TestCase):

    def test_34(self):
        program = Program.read('module a\n  load b b\n  put x 1\nmodule b\n  say 5\n')
        self.assertEqual(program.places(), LATE_B)
        late = Late.of(program, LATE_B)
        self.assertEqual(notice(program, late), [('call', 'a', 'x')])
        self.assertEqual(World(program).do(('call', 'a', 'x')), ((5,), ('fault', ('kind', 'x'))))
        self.assertEqual(World(program, late).do(('call', 'a', 'x')), ((), ('fault', ('kind', 'x'))))
        answers = [world.do(('call', 'a', 'b')) for world in (World(program), World(program, late))]
        self.assertEqual(answers, [((5,), ('fault', ('kind', 'b')))] * 2)
        self.assertIsNone(notice(program, late, eye='values'))
        self.assertEqual(story(program, late, [('load', 'a')]),
                         (0, 0, 5, ('told', ('module', 'a')), [('a', (0,)), ('b', (0,))], []))

    def test_35(self):
        program = Program.read('module a\n  load b b\n  load c c\n  copy x b\n  copy y c\n'
                               'module b\n  say 1\nmodule c\n  say 2\n')
        self.assertEqual(program.places(), BOTH)
        for places, events in [([], (1, 2)), (LATE_B, (2, 1)), (LATE_C, (1, 2)), (BOTH, (1, 2))]:
            late = Late.of(program, places)
            self.assertEqual(World(program, late).load('a'), (events, ('told', ('module', 'a'))))
            self.assertEqual(notice(program, late) is None, places != LATE_B)
        self.assertEqual(hidden(program), [[], LATE_C, BOTH])
        self.assertEqual(classes(program), [[[], LATE_C, BOTH], [LATE_B]])

    def test_36(self):
        program = Program.read('module a\n  pick x b y\n  put z 1\nmodule b\n  pick w a z\n  put y 2\n')
        self.assertEqual(World(program).load('a'), ((), ('fault', ('part', 'a', 'z'))))
        late = Late.of(program, [('a', (0,))])
        world = World(program, late)
        self.assertEqual(world.load('a'), ((), ('told', ('module', 'a'))))
        self.assertEqual(world.look('a', 'x'), ((), ('told', 2)))


if __name__ == '__main__':
    unittest.main()
