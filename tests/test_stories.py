"""[26]: story and touches."""

import random
import unittest

from firsttouch.errors import BadDeed, OtherProgram
from firsttouch.lates import Late
from firsttouch.parting import notice
from firsttouch.programs import Program
from firsttouch.stories import story, touches
from firsttouch.worlds import World
from tests.helpers import function, library, module, whole
from tests.samples import random_deeds, random_library, random_places
from tests.test_parting import P
from tests.test_worlds import NO_DEEDS

A = module('a')
B = module('b')
TOLD_A = ('told', A)


def story_of(text, *client, places=None):
    program = library(text)
    late = Late.whole(program) if places is None else Late.of(program, places)
    return story(program, late, list(client))


def touches_of(text, *client, places=None):
    program = library(text)
    late = Late.whole(program) if places is None else Late.of(program, places)
    return touches(program, late, list(client))


class TestStory(unittest.TestCase):

    def test_none_where_nothing_is_unlike(self):
        self.assertIsNone(story_of(P))
        self.assertIsNone(story_of(P, ('call', 'a', 'b')))
        self.assertIsNone(story_of(P, ('seen', 'b'), ('load', 'b'), ('load', 'a'), ('load', 'zz'), ('seen', 'b')))
        self.assertIsNone(story_of(P, ('load', 'a'), places=[]))

    def test_what_is_told(self):
        told = story_of(P, ('load', 'a'))
        self.assertEqual(told, (0, 0, 5, TOLD_A, [('a', (0,)), ('b', (0,))], []))
        self.assertIs(type(told), tuple)
        for rows in told[4:]:
            self.assertIs(type(rows), list)
        for row in told[4]:
            self.assertEqual([type(thing) for thing in (row, *row)], [tuple, str, tuple])

    def test_arguments_by_name(self):
        program, late = whole(P)
        wanted = (0, 0, 5, TOLD_A, [('a', (0,)), ('b', (0,))], [])
        self.assertEqual(story(client=[('load', 'a')], late=late, program=program), wanted)
        self.assertEqual(touches(client=[('load', 'a')], late=late, program=program), [])

    def test_clients_as_lists_and_as_tuples(self):
        program, late = whole(P)
        for client in ([('load', 'a')], (('load', 'a'),), [['load', 'a']], (['load', 'a'],)):
            self.assertEqual(story(program, late, client)[:3], (0, 0, 5))
        for client in ([('look', 'a', 'b')], [['look', 'a', 'b']], (['look', 'a', 'b'],)):
            self.assertEqual(touches(program, late, client), [(0, 'a', 'b', [])])
        for client in ([], ()):
            self.assertIsNone(story(program, late, client))
            self.assertEqual(touches(program, late, client), [])

    def test_the_number_of_the_deed(self):
        client = [('seen', 'a'), ('load', 'zz'), ('load', 'a'), ('look', 'a', 'b')]
        self.assertEqual(story_of(P, *client)[:4], (2, 0, 5, TOLD_A))
        # The first one alone is told.
        self.assertEqual(story_of(P, *client[:2], *client[3:]), None)
        self.assertEqual(story_of(P, *client, ('load', 'b'))[0], 2)

    def test_the_rows_are_those_of_the_deed(self):
        text = '''
            module a
              load b b
              put x 1
            module b
              say 5
            module c
              say 8
              say 9
              try
                fail 7
              else
                say 6
              load d d
            module d
              say 4
        '''
        # The events, faults and touches of the deeds ahead of it do not count.
        ahead = [('load', 'c'), ('call', 'c', 'd'), ('load', 'zz')]
        self.assertEqual(story_of(text, *ahead, ('load', 'a'), ('look', 'a', 'b'), places=[('a', (0,))]),
                         (3, 0, 5, TOLD_A, [('a', (0,)), ('b', (0,))], []))
        self.assertEqual(story_of(text, ('load', 'b'), *ahead, places=[('c', (3,))]),
                         (1, 3, 4, ('told', module('c')), [('c', (3,)), ('d', (0,))], []))

    def test_an_event_that_only_the_late_world_has(self):
        client = [('load', 'a'), ('look', 'a', 'b')]
        text = P.replace('put x 1', 'seen x b\n      when x\n        nothing\n      else\n        say 7')
        # The event 5 is unlike to 7, so that both of them are told.
        self.assertEqual(story_of(text, *client), (
            0, 0, 5, 7, [('a', (0,)), ('b', (0,))], [('a', (2,)), ('a', (2, 1, 0))]))
        # Here the early world says nothing.
        text = text.replace('say 5', 'put y 5')
        self.assertEqual(story_of(text, *client), (0, 0, TOLD_A, 7, [], [('a', (2,)), ('a', (2, 1, 0))]))

    def test_the_first_event_that_is_unlike(self):
        text = '''
            module a
              say 1
              load b b
              load c c
              copy x c
              copy y b
              say 4
            module b
              say 2
              say 3
            module c
              say 2
              say 2
        '''
        # Early 1 2 3 2 2 4, late 1 2 2 2 3 4.
        self.assertEqual(story_of(text, ('load', 'a')), (
            0, 2, 3, 2, [('a', (1,)), ('b', (1,))], [('a', (3,)), ('c', (1,))]))

    def test_an_event_behind_all_that_are_alike(self):
        text = '''
            module a
              say 1
              load b b
            module b
              say 2
        '''
        self.assertEqual(story_of(text, ('load', 'a')), (0, 1, 2, TOLD_A, [('a', (1,)), ('b', (0,))], []))

    def test_the_ends_alone(self):
        text = '''
            module a
              load b b
              say 1
              seen y b
            module b
              nothing
        '''
        self.assertEqual(story_of(text, ('load', 'a'), ('look', 'a', 'y')),
                         (1, None, ('told', 1), ('told', 0), [], []))
        self.assertEqual(story_of(text, ('look', 'a', 'y')), (0, None, ('told', 1), ('told', 0), [], []))

    def test_an_end_that_is_a_fault(self):
        text = '''
            module a
              load b b
              say 1
              try
                drop b
              else
                nothing
            module b
              try
                put z 1
                fail 2
              else
                fail 3
        '''
        self.assertEqual(story_of(text, ('load', 'a')), (
            0, 0, ('fault', ('fail', 3)), 1, [('a', (0,)), ('b', (0,)), ('b', (0, 1, 0))], [('a', (1,))]))

    def test_faults_of_both_worlds(self):
        text = '''
            module a
              pick x b nope
              try
                tell y
              else
                tell z
            module b
              nothing
        '''
        # Early the pick row finds no part; late it is the row in the other block of the try row.
        self.assertEqual(story_of(text, ('load', 'a')), (
            0, None, ('fault', ('part', 'b', 'nope')), ('fault', ('name', 'z')),
            [('a', (0,))], [('a', (1,)), ('a', (1, 1, 0))]))

    def test_a_fault_that_was_tried_is_not_told(self):
        text = '''
            module a
              load b b
              try
                try
                  drop p
                else
                  drop q
              else
                try
                  fail 1
                else
                  say 2
                say 3
            module b
              fail 4
        '''
        self.assertEqual(story_of(text, ('load', 'a')), (
            0, 0, ('fault', ('fail', 4)), 2,
            [('a', (0,)), ('b', (0,))], [('a', (1,)), ('a', (1, 1, 0)), ('a', (1, 1, 0, 1, 0))]))
        text = text.replace('say 2', 'say 5').replace('fail 4', 'say 5')
        # Early 5 5 3, late 5 3: behind the tried faults say 3 stands within two rows.
        self.assertEqual(story_of(text, ('load', 'a')), (
            0, 1, 5, 3, [('a', (1,)), ('a', (1, 1, 0)), ('a', (1, 1, 0, 1, 0))],
            [('a', (1,)), ('a', (1, 1, 1))]))

    def test_a_fault_that_came_to_a_deed_itself(self):
        text = '''
            module a
              load x b
              put y 1
            module b
              pick z c k
            module c
              put k 1
              fail 4
        '''
        early = [('a', (0,)), ('b', (0,)), ('c', (1,))]
        self.assertEqual(story_of(text, ('load', 'a')), (0, None, ('fault', ('fail', 4)), TOLD_A, early, []))
        for deed, fault in [(('call', 'a', 'y'), ('kind', 'y')), (('look', 'a', 'q'), ('part', 'a', 'q'))]:
            self.assertEqual(story_of(text, deed), (
                0, None, ('fault', ('fail', 4)), ('fault', fault), early, []))

    def test_a_fault_at_the_touch_of_a_deed(self):
        text = '''
            module a
              pick x b y
              put z 1
            module b
              pick w a z
              %s
        '''
        early = ('fault', ('part', 'a', 'z'))
        rows = [('a', (0,)), ('b', (0,))]
        # Late b is run, and has no part y: the fault came to the deed itself.
        self.assertEqual(story_of(text % 'put q 2', ('look', 'a', 'x'), places=[('a', (0,))]),
                         (0, None, early, ('fault', ('part', 'b', 'y')), rows, []))
        # Late the fault comes in b, which the deed itself gets.
        self.assertEqual(story_of(text % 'fail 3', ('look', 'a', 'x'), places=[('a', (0,))]),
                         (0, None, early, ('fault', ('fail', 3)), rows, [('b', (1,))]))

    def test_rows_of_functions(self):
        text = '''
            module a
              load b b
              make f
                say 1
                try
                  part g b g
                  say 2
                else
                  nothing
              call f
            module b
              make g
                say 3
              call g
        '''
        # Early 3 ahead of 1: the call row and the row in the block, with the function's own home.
        self.assertEqual(story_of(text, ('load', 'a')), (
            0, 0, 3, 1, [('a', (0,)), ('b', (1,)), ('b', (0, 0, 0))], [('a', (2,)), ('a', (1, 0, 0))]))
        # Of a function that a deed calls there is no call row.
        text = '''
            module a
              make f
                say 1
                tell b
                say 2
              load b b
            module b
              say 3
        '''
        self.assertEqual(story_of(text, ('call', 'a', 'f')), (
            0, 0, 3, 1, [('a', (1,)), ('b', (0,))], [('a', (0, 0, 0))]))

    def test_rows_of_a_function_of_another_home(self):
        text = '''
            module a
              pick g b g
              call g
            module b
              load c c
              make g
                tell n
              put n 1
            module c
              say 3
        '''
        self.assertEqual(story_of(text, ('load', 'a'), places=[('b', (0,))]), (
            0, 0, 3, 1, [('a', (0,)), ('b', (0,)), ('c', (0,))], [('a', (1,)), ('b', (1, 0, 0))]))

    def test_rows_of_a_module_that_a_touch_gets(self):
        text = '''
            module a
              load b b
              say 1
              put z 1
              when z
                tell b
              else
                nothing
            module b
              say 1
              say %s
        '''
        # Early 1 2 1 and b, late 1 1 2 and b.
        self.assertEqual(story_of(text % 2, ('load', 'a')), (
            0, 1, 2, 1, [('a', (0,)), ('b', (1,))], [('a', (3,)), ('a', (3, 0, 0)), ('b', (0,))]))
        self.assertIsNone(story_of(text % 1, ('load', 'a')))

    def test_the_eye_is_all(self):
        # The same events in another order are unlike, and so are events where the ends are alike.
        program = library('''
            module a
              load b b
              say 1
              copy c b
            module b
              say 2
        ''')
        late = Late.whole(program)
        self.assertIsNone(notice(program, late, eye='bag'))
        self.assertEqual(story(program, late, [('load', 'a')])[:4], (0, 0, 2, 1))

    def test_events_of_all_kinds(self):
        text = '''
            module a
              load b b
              make f
                nothing
              load m a
              tell %s
            module b
              say 1
        '''
        for name, shown in [('m', A), ('f', function('a', 1))]:
            self.assertEqual(story_of(text % name, ('load', 'a')), (
                0, 0, 1, shown, [('a', (0,)), ('b', (0,))], [('a', (3,))]))
        # Early and late 1 and b are told.
        self.assertIsNone(story_of(text % 'b', ('load', 'a')))

    def test_each_client_that_notices_has_a_story(self):
        chance = random.Random(26)
        met = {True: 0, False: 0}
        for _ in range(300):
            program = Program(random_library(chance))
            late = Late.of(program, random_places(chance, program))
            client = random_deeds(chance, 4)
            worlds = World(program), World(program, late)
            answers = [tuple(world.do(deed) for world in worlds) for deed in client]
            unlike = [at for at, (early, other) in enumerate(answers) if early != other]
            told = story(program, late, client)
            met[told is None] += 1
            self.assertEqual(told is None, not unlike)
            if told is None:
                continue
            at, nth, early, later, early_rows, late_rows = told
            self.assertEqual(at, unlike[0])
            for answer, thing, rows in zip(answers[at], (early, later), (early_rows, late_rows)):
                if nth is not None and nth < len(answer[0]):
                    self.assertEqual(thing, answer[0][nth])
                    # The last of the rows is that of the event.
                    self.assertIn(row_at(program, *rows[-1])[0], ('say', 'tell'))
                else:
                    self.assertEqual(thing, answer[1])
                    self.assertTrue(rows == [] or thing[0] == 'fault')
            self.assertNotEqual(early, later)
            events = [answer[0][:nth] if nth is not None else answer[0] for answer in answers[at]]
            self.assertEqual(*events)
        self.assertGreater(min(met.values()), 50)


class TestTouches(unittest.TestCase):

    def test_what_is_told(self):
        told = touches_of(P, ('load', 'a'), ('look', 'a', 'b'), ('look', 'a', 'b'))
        self.assertEqual(told, [(1, 'a', 'b', [])])
        self.assertEqual([type(thing) for thing in (told, told[0], told[0][3])], [list, tuple, list])
        self.assertEqual(touches_of(P, ('load', 'a'), ('look', 'a', 'x')), [])
        self.assertEqual(touches_of(P, ('look', 'a', 'b'), places=[]), [])

    def test_the_rows_that_are_being_run(self):
        text = '''
            module a
              load b b
              load c c
              load d b
              make f
                try
                  tell b
                else
                  nothing
              call f
              put n 1
              when n
                copy x c
              else
                nothing
              part y d k
            module b
              put k 1
            module c
              pick k b k
              copy l k
        '''
        self.assertEqual(touches_of(text, ('load', 'a')), [
            (0, 'a', 'b', [('a', (4,)), ('a', (3, 0, 0)), ('a', (3, 0, 0, 0, 0))]),
            (0, 'a', 'c', [('a', (6,)), ('a', (6, 0, 0))]),
            (0, 'c', 'k', [('a', (6,)), ('a', (6, 0, 0)), ('c', (1,))]),
            (0, 'a', 'd', [('a', (7,))]),
        ])
        # Of a function that a deed calls there is no call row.
        self.assertEqual(touches_of(text.replace('call f', 'say 1'), ('load', 'b'), ('call', 'a', 'f'))[-1],
                         (1, 'a', 'b', [('a', (3, 0, 0)), ('a', (3, 0, 0, 0, 0))]))

    def test_the_order_in_which_their_keeping_begins(self):
        text = '''
            module a
              pick x b y
              tell x
            module b
              pick y c z
              pick w c z
              tell w
            module c
              put z 1
        '''
        # While x is kept, b is run, which touches w; then y is found in b, and touched there.
        self.assertEqual(touches_of(text, ('load', 'a')), [
            (0, 'a', 'x', [('a', (1,))]),
            (0, 'b', 'w', [('a', (1,)), ('b', (2,))]),
            (0, 'b', 'y', [('a', (1,))]),
        ])
        self.assertEqual(touches_of(text.replace('tell x', 'say 1'), ('load', 'a'), ('look', 'a', 'x')), [
            (1, 'a', 'x', []), (1, 'b', 'w', [('b', (2,))]), (1, 'b', 'y', [])])

    def test_an_early_row_that_finds_a_promise(self):
        text = '''
            module a
              pick x b y
            module b
              load y c
            module c
              nothing
        '''
        self.assertEqual(touches_of(text, ('load', 'a'), places=[('b', (0,))]), [(0, 'b', 'y', [('a', (0,))])])

    def test_a_keeping_that_ends_with_a_fault(self):
        text = '''
            module a
              load x b
              pick y zz v
              try
                tell x
              else
                try
                  tell y
                else
                  say 1
              tell x
            module b
              fail 3
        '''
        self.assertEqual(touches_of(text, ('load', 'a'), ('look', 'a', 'x')), [
            (0, 'a', 'x', [('a', (2,)), ('a', (2, 0, 0))]),
            (0, 'a', 'y', [('a', (2,)), ('a', (2, 1, 0)), ('a', (2, 1, 0, 0, 0))]),
            (0, 'a', 'x', [('a', (3,))]),
            # The table has lost a, which is run anew.
            (1, 'a', 'x', [('a', (2,)), ('a', (2, 0, 0))]),
            (1, 'a', 'y', [('a', (2,)), ('a', (2, 1, 0)), ('a', (2, 1, 0, 0, 0))]),
            (1, 'a', 'x', [('a', (3,))]),
        ])

    def test_a_ring_is_no_keeping(self):
        text = '''
            module a
              pick x b y
            module b
              pick y a x
        '''
        self.assertEqual(touches_of(text, ('look', 'a', 'x'), ('look', 'b', 'y')), [
            (0, 'a', 'x', []), (0, 'b', 'y', []), (1, 'b', 'y', []), (1, 'a', 'x', [])])

    def test_the_number_of_the_deed(self):
        client = [('seen', 'a'), ('load', 'zz'), ('load', 'a'), ('load', 'a'), ('call', 'a', 'b')]
        self.assertEqual(touches_of(P, *client), [(4, 'a', 'b', [])])

    def test_a_touch_of_a_value_is_none(self):
        self.assertEqual(touches_of(P, ('look', 'a', 'x'), ('call', 'a', 'x'), ('look', 'b', 'x')), [])

    def test_each_touch_is_of_a_promise(self):
        chance = random.Random(27)
        told = 0
        for _ in range(300):
            program = Program(random_library(chance))
            client = random_deeds(chance, 4)
            self.assertEqual(touches(program, Late.empty(program), client), [])
            for at, word, name, rows in touches(program, Late.whole(program), client):
                told += 1
                self.assertLess(at, len(client))
                self.assertIn(name, program.names_of(word))
                for row in rows:
                    row_at(program, *row)
        self.assertGreater(told, 50)


def row_at(program, word, path):
    """The row of a module at a path."""
    row = program.rows(word)[path[0]]
    for at in range(1, len(path), 2):
        blocks = [part for part in row if isinstance(part, tuple)]
        row = blocks[path[at]][path[at + 1]]
    return row


class TestRefusing(unittest.TestCase):

    def test_no_deeds(self):
        program, late = whole(P)
        for ask in (story, touches):
            for thing in NO_DEEDS:
                for client in ([thing], [('load', 'a'), thing], (('load', 'a'), ('load', 'b'), thing, None)):
                    with self.assertRaises(BadDeed) as caught:
                        ask(program, late, client)
                    self.assertIs(caught.exception.deed, thing)

    def test_another_program_goes_ahead(self):
        program = library(P)
        for late in (Late.whole(library(P)), Late.empty(library(P))):
            for ask in (story, touches):
                for client in ([('load', 'a')], [], [None], [('load', 'a'), 5]):
                    self.assertRaises(OtherProgram, ask, program, late, client)

    def test_what_is_passed_stays(self):
        program, late = whole(P)
        client = [['load', 'a'], ['look', 'a', 'b']]
        story(program, late, client)
        touches(program, late, client)
        self.assertEqual(client, [['load', 'a'], ['look', 'a', 'b']])

    def test_what_is_told_is_new(self):
        program, late = whole(P)
        first = story(program, late, [('load', 'a')])
        first[4].clear()
        first[5].append(1)
        self.assertEqual(story(program, late, [('load', 'a')])[4:], ([('a', (0,)), ('b', (0,))], []))
        told = touches(program, late, [('look', 'a', 'b')])
        told[0][3].append(1)
        self.assertEqual(touches(program, late, [('look', 'a', 'b')]), [(0, 'a', 'b', [])])


if __name__ == '__main__':
    unittest.main()
