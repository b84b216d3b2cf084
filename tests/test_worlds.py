"""[16] to [19]: deeds and answers, what a world tells of itself, twins, and what holds."""

import copy
import random
import unittest

from firsttouch.errors import BadDeed, BadWord, OtherProgram
from firsttouch.lates import Late
from firsttouch.programs import Program
from firsttouch.worlds import World
from tests.helpers import NO_WORDS, all_late, early, fault, function, library, module, told
from tests.samples import random_deeds, random_library, random_places

A = module('a')
TEXT = '''
    module a
      say 1
      load x b
      make f
        say 2
        put y 3
      put n 4
    module b
      say 7
      put v 5
      try
        drop nope
      else
        say 8
    module c
      say 9
      pick x b nope
'''

# Objects that are no deed, many of them nearly one.
NO_DEEDS = [
    *NO_WORDS, 'load', 'load a', ('load',), ('load', 'a', 'b'), ('look', 'a'), ('look',),
    ('look', 'a', 'x', 'y'), ('call', 'a'), ('call', 'a', 'x', 'y'), ('seen',), ('seen', 'a', 'x'),
    ('load', 'A'), ('load', ''), ('load', 'abcdefghi'), ('load', None), ('load', ['a']),
    ('load', ('a',)), ('look', 'a', 1), ('look', 1, 'a'), ('look', 'a', 'X'), ('look', 'a', ['x']),
    ('call', 'a', None), ('call', {}, 'x'), ('call', 'a', True), ('seen', 0), ('seen', 'a b'),
    ('touch', 'a'), ('drop', 'a'), ('Load', 'a'), ('load ', 'a'), (['load'], 'a'), ({}, 'a'),
    ('a', 'load'), (None, 'a'), (0, 'a'), ['look', 'a'], {'load': 'a'}, {'load': 1, 'a': 2},
    [('load', 'a')], (('load', 'a'),), 'aa', ('do', 'a'), ('table',), ('state', 'a'),
]


class TestAnswers(unittest.TestCase):

    def test_load(self):
        world = early(TEXT)
        self.assertEqual(world.load('a'), told(A, 1, 7, 8))
        self.assertEqual(world.load(module='a'), told(A))
        self.assertEqual(world.load('b'), told(module('b')))
        self.assertEqual(world.load('c'), fault('part', 'b', 'nope', events=(9,)))
        self.assertEqual(world.load('zz'), fault('absent', 'zz'))

    def test_look(self):
        world = early(TEXT)
        self.assertEqual(world.look('a', 'n'), told(4, 1, 7, 8))
        self.assertEqual(world.look(module='a', part='f'), told(function('a', 2)))
        self.assertEqual(world.look('a', part='x'), told(module('b')))
        self.assertEqual(world.look('a', 'y'), fault('part', 'a', 'y'))
        self.assertEqual(world.look('c', 'x'), fault('part', 'b', 'nope', events=(9,)))
        self.assertEqual(world.look('zz', 'x'), fault('absent', 'zz'))

    def test_call(self):
        world = early(TEXT)
        self.assertEqual(world.call('a', 'f'), told(None, 1, 7, 8, 2))
        self.assertEqual(world.look('a', 'y'), told(3))
        self.assertEqual(world.call(part='f', module='a'), told(None, 2))
        self.assertEqual(world.call('a', 'n'), fault('kind', 'n'))
        self.assertEqual(world.call('a', 'x'), fault('kind', 'x'))
        self.assertEqual(world.call('a', 'nope'), fault('part', 'a', 'nope'))
        self.assertEqual(world.call('zz', 'f'), fault('absent', 'zz'))
        self.assertEqual(world.call('c', 'f'), fault('part', 'b', 'nope', events=(9,)))

    def test_call_of_a_function_of_another_home(self):
        world = early('''
            module a
              pick g b f
            module b
              put n 1
              make f
                tell n
                drop n
        ''')
        self.assertEqual(world.call('a', 'g'), told(None, 1))
        self.assertEqual(world.call('a', 'g'), fault('name', 'n'))

    def test_a_fault_within_a_called_function(self):
        world = early('''
            module a
              make f
                say 1
                fail 2
        ''')
        self.assertEqual(world.call('a', 'f'), fault('fail', 2, events=(1,)))
        self.assertEqual(world.table(), ['a'])

    def test_seen(self):
        world = early(TEXT)
        self.assertEqual(world.seen('a'), told(0))
        self.assertEqual(world.ran(), [])
        world.load('a')
        for word, number in [('a', 1), ('b', 1), ('c', 0), ('zz', 0)]:
            self.assertEqual(world.seen(word), told(number))
            self.assertEqual(world.seen(module=word), told(number))
        self.assertIs(type(world.seen('a')[1][1]), int)

    def test_do(self):
        deeds = [('load', 'a'), ('look', 'a', 'x'), ('call', 'a', 'f'), ('seen', 'b'),
                 ('load', 'c'), ('look', 'c', 'x'), ('call', 'a', 'n'), ('seen', 'zz')]
        for given in (deeds, [list(deed) for deed in deeds]):
            one, other, third = early(TEXT), early(TEXT), early(TEXT)
            for deed in given:
                answer = getattr(one, deed[0])(*deed[1:])
                self.assertEqual(other.do(deed), answer)
                self.assertEqual(third.do(deed=deed), answer)
            self.assertEqual(one.state(), other.state())

    def test_answers_are_pairs_of_tuples(self):
        world = early(TEXT)
        for deed in [('load', 'a'), ('look', 'a', 'n'), ('look', 'a', 'f'), ('call', 'a', 'f'),
                     ('load', 'c'), ('seen', 'a')]:
            answer = world.do(deed)
            self.assertEqual([type(part) for part in (answer, *answer)], [tuple] * 3)
            self.assertEqual((len(answer), len(answer[1])), (2, 2))
            hash(answer)

    def test_events_are_those_of_the_deed_alone(self):
        world = all_late(TEXT)
        self.assertEqual(world.load('a'), told(A, 1))
        self.assertEqual(world.seen('a'), told(1))
        self.assertEqual(world.look('a', 'x'), told(module('b'), 7, 8))
        self.assertEqual(world.call('a', 'f'), told(None, 2))


class TestRefusing(unittest.TestCase):

    def refused(self, error, field, thing, call):
        with self.assertRaises(error) as caught:
            call()
        self.assertIs(getattr(caught.exception, field), thing)

    def test_no_words(self):
        world = early(TEXT)
        world.load('b')
        before = (world.state(), world.ran(), world.begun())
        for thing in NO_WORDS:
            self.refused(BadWord, 'word', thing, lambda: world.load(thing))
            self.refused(BadWord, 'word', thing, lambda: world.load(module=thing))
            self.refused(BadWord, 'word', thing, lambda: world.seen(thing))
            self.refused(BadWord, 'word', thing, lambda: world.seen(module=thing))
            for ask in (world.look, world.call):
                self.refused(BadWord, 'word', thing, lambda: ask(thing, 'x'))
                self.refused(BadWord, 'word', thing, lambda: ask('a', thing))
                self.refused(BadWord, 'word', thing, lambda: ask('zz', part=thing))
                self.refused(BadWord, 'word', thing, lambda: ask(part=thing, module='a'))
                self.refused(BadWord, 'word', thing, lambda: ask(thing, None))
                self.refused(BadWord, 'word', thing, lambda: ask(part='X', module=thing))
        self.assertEqual((world.state(), world.ran(), world.begun()), before)

    def test_no_deeds(self):
        world = early(TEXT)
        world.load('b')
        before = (world.state(), world.ran(), world.begun())
        for thing in NO_DEEDS:
            self.refused(BadDeed, 'deed', thing, lambda: world.do(thing))
            self.refused(BadDeed, 'deed', thing, lambda: world.do(deed=thing))
        self.assertEqual((world.state(), world.ran(), world.begun()), before)

    def test_a_late_set_of_another_program(self):
        program, other = library(TEXT), library(TEXT)
        for late in (Late.whole(other), Late.empty(other)):
            self.assertRaises(OtherProgram, World, program, late)
            self.assertRaises(OtherProgram, World, program=program, late=late)

    def test_what_is_passed_stays(self):
        deed = ['look', 'a', 'n']
        world = early(TEXT)
        world.do(deed)
        self.assertEqual(deed, ['look', 'a', 'n'])


class TestWorlds(unittest.TestCase):

    def test_new_worlds(self):
        program = library(TEXT)
        for world in (World(program), World(program, None), World(program=program, late=None),
                      World(program, Late.empty(program)),
                      World(late=Late.empty(program), program=program)):
            self.assertEqual(world.state(), ((), ((), (), ())))
            self.assertEqual((world.table(), world.ran(), world.begun()), ([], [], 0))
            self.assertEqual(world.load('a'), told(A, 1, 7, 8))
        late = World(program, late=Late.whole(program))
        self.assertEqual(late.load('a'), told(A, 1))

    def test_worlds_of_one_program_are_apart(self):
        program = library(TEXT)
        one, other = World(program), World(program)
        one.load('a')
        self.assertEqual(other.state(), ((), ((), (), ())))
        self.assertEqual(other.load('b'), told(module('b'), 7, 8))
        self.assertNotEqual(one, other)

    def test_a_later_late_set_changes_nothing(self):
        program = library(TEXT)
        late = Late.whole(program)
        world = World(program, late)
        late.places().clear()
        late = late - late
        self.assertEqual(world.load('a'), told(A, 1))

    def test_table_and_ran(self):
        world = early('''
            module a
              fail 1
            module b
              nothing
            module c
              load b b
              try
                load a a
              else
                nothing
        ''')
        self.assertEqual((world.table(), world.ran()), ([], []))
        world.load('c')
        self.assertEqual((world.table(), world.ran()), (['b', 'c'], ['c', 'b', 'a']))
        world.load('a')
        world.load('b')
        world.load('zz')
        self.assertEqual((world.table(), world.ran()), (['b', 'c'], ['c', 'b', 'a', 'a']))

    def test_begun(self):
        world = early('''
            module a
              say 1
              make f
                say 2
                fail 3
                say 4
              put n 0
              when n
                say 5
              else
                try
                  say 6
                  drop nope
                  say 7
                else
                  say 8
              call f
              say 9
        ''')
        self.assertEqual(world.begun(), 0)
        # say, make, put, when, try, say, drop, say, call, say, fail.
        self.assertEqual(world.load('a'), fault('fail', 3, events=(1, 6, 8, 2)))
        self.assertEqual(world.begun(), 11)
        world.load('a')
        self.assertEqual(world.begun(), 22)
        world.seen('a')
        world.load('zz')
        self.assertEqual(world.begun(), 22)

    def test_begun_counts_late_rows_and_rows_behind_touches(self):
        world = all_late(TEXT)
        world.load('a')
        self.assertEqual(world.begun(), 4)
        world.look('a', 'x')
        self.assertEqual(world.begun(), 9)
        world.look('a', 'x')
        self.assertEqual(world.begun(), 9)
        world.call('a', 'f')
        self.assertEqual(world.begun(), 11)

    def test_state(self):
        world = all_late('''
            module b
              put z 1
              load y a
              pick x a z
              make f
                nothing
              load w b
              tell w
              seen a b
            module c
              put x -1
              fail 2
        ''')
        self.assertEqual(world.state(), ((), ((), ())))
        world.load('c')
        world.load('b')
        self.assertEqual(world.state(), (('b',), (
            (('a', 1), ('f', function('b', 3)), ('w', module('b')), ('x', ('promise', 'a', 'z')),
             ('y', ('promise', 'a')), ('z', 1)),
            (('x', -1),))))
        hash(world.state())

    def test_what_was_returned_may_change(self):
        world = early(TEXT)
        world.load('a')
        for ask in (world.table, world.ran):
            answer = ask()
            kept = list(answer)
            answer.append('other')
            answer[0] = 'other'
            self.assertEqual(ask(), kept)
        self.assertEqual(world.load('b'), told(module('b')))


class TestTwins(unittest.TestCase):

    def shape(self, world):
        return copy.deepcopy((world.state(), world.table(), world.ran(), world.begun()))

    def test_a_twin_is_as_the_world_is(self):
        world = all_late(TEXT)
        world.load('a')
        world.load('c')
        world.look('c', 'x')
        twin = world.twin()
        self.assertIsInstance(twin, World)
        self.assertIsNot(twin, world)
        self.assertNotEqual(twin, world)
        self.assertEqual(self.shape(twin), self.shape(world))
        self.assertEqual(twin.ran(), ['a', 'c', 'b'])
        for deed in (('look', 'a', 'x'), ('call', 'a', 'f'), ('load', 'c')):
            self.assertEqual(twin.do(deed), world.do(deed))
        self.assertEqual(self.shape(twin), self.shape(world))

    def test_a_twin_has_the_same_program_and_late_set(self):
        program = library(TEXT)
        world = World(program, Late.whole(program))
        self.assertEqual(world.twin().load('a'), told(A, 1))
        self.assertEqual(World(program).twin().load('a'), told(A, 1, 7, 8))

    def test_twins_are_apart(self):
        world = all_late(TEXT)
        world.load('a')
        before = self.shape(world)
        twin = world.twin()
        twin.look('a', 'x')
        twin.call('a', 'f')
        self.assertEqual(self.shape(world), before)
        after = self.shape(twin)
        self.assertNotEqual(after, before)
        world.load('c')
        world.look('c', 'x')
        self.assertEqual(self.shape(twin), after)
        self.assertEqual(self.shape(twin.twin().twin()), after)


class TestHolding(unittest.TestCase):

    def test_equal_states_give_equal_answers(self):
        chance = random.Random(18)
        met = 0
        for _ in range(150):
            program = Program(random_library(chance))
            late = Late.of(program, random_places(chance, program))
            by_state = {}
            for _ in range(8):
                world = World(program, late)
                for deed in random_deeds(chance, 3):
                    world.do(deed)
                    by_state.setdefault(world.state(), []).append(world.twin())
            for worlds in by_state.values():
                deeds = random_deeds(chance, 4)
                answers = [([world.do(deed) for deed in deeds], world.state()) for world in worlds]
                self.assertEqual(answers, [answers[0]] * len(answers))
                met += len({tuple(world.ran()) for world in worlds}) > 1
        self.assertGreater(met, 50)

    def test_with_the_empty_late_set_there_is_no_promise_and_no_ring(self):
        chance = random.Random(19)
        rings = 0
        for _ in range(600):
            program = Program(random_library(chance))
            whole = World(program, Late.whole(program))
            world = World(program)
            for deed in random_deeds(chance, 8):
                rings += str(whole.do(deed)).count("'ring'")
                self.assertNotIn("'ring'", str(world.do(deed)))
                self.assertNotIn("'promise'", str(world.state()))
        self.assertGreater(rings, 0)

    def test_nothing_shown_is_a_promise(self):
        chance = random.Random(15)
        for _ in range(300):
            program = Program(random_library(chance))
            world = World(program, Late.of(program, random_places(chance, program)))
            for deed in random_deeds(chance, 6):
                self.assertNotIn("'promise'", str(world.do(deed)))

    def test_the_same_deeds_give_the_same(self):
        chance = random.Random(3)
        for _ in range(50):
            program = Program(random_library(chance))
            deeds = random_deeds(chance, 6)
            worlds = [World(program, Late.whole(program)) for _ in range(2)]
            answers = [[world.do(deed) for deed in deeds] for world in worlds]
            self.assertEqual(answers[0], answers[1])
            self.assertEqual(worlds[0].state(), worlds[1].state())


if __name__ == '__main__':
    unittest.main()
