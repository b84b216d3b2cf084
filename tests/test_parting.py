"""[21] to [24]: the deeds of a client and the order of clients, eyes, parting and notice."""

import random
import unittest

from firsttouch.errors import BadEye, OtherProgram, TooMany
from firsttouch.lates import Late
from firsttouch.parting import notice, paper, parting
from firsttouch.programs import Program
from firsttouch.worlds import World
from tests import brute
from tests.helpers import NO_EYES, all_late, early, late, library, shape, whole
from tests.samples import lively_library, random_deeds, random_library, random_places

P = '''
    module a
      load b b
      put x 1
    module b
      say 5
'''
EYES = ['all', 'bag', 'values']


def by_eyes(one, other, **options):
    """What parting tells with each eye."""
    return [parting(one, other, eye=eye, **options) for eye in EYES]


class TestDeeds(unittest.TestCase):

    def count(self, program, **options):
        """How many deeds a client of a library has."""
        return len(paper(program, Late.empty(program), **options)[0][1])

    def test_load_look_and_call_with_the_names_of_rows(self):
        text = '''
            module a
              put n 1
              try
                copy o z
              else
                make p
                  put q 2
              tell n
              try
                drop r
              else
                seen s t
              try
                call u
              else
                part v w x
            module b
              nothing
        '''
        # n, o, p, q, s, v of a; look and call of each, load of both modules, seen of both.
        program = library(text)
        self.assertEqual(program.names_of('a'), ['n', 'o', 'p', 'q', 's', 'v'])
        self.assertEqual(self.count(program), 14)
        self.assertEqual(self.count(program, table=True), 16)
        self.assertEqual(self.count(program, table=False), 14)

    def test_the_order_is_that_of_tuples(self):
        # call, load, look and seen; modules; names.
        program = library('''
            module a
              make f
                put y 1
              make h
                nothing
            module b
              make g
                put z 2
        ''')
        self.assertEqual(
            [client for client, _ in paper(program, Late.empty(program), table=True)][:5],
            [[], [('call', 'a', 'f')], [('call', 'a', 'h')], [('call', 'b', 'g')], [('call', 'b', 'z')]])

    def test_look_tells_integers_apart_that_call_does_not(self):
        text = '''
            module %s
              put n %d
        '''
        self.assertEqual(parting(early(text % ('a', 1)), early(text % ('a', 2))), [('look', 'a', 'n')])

    def test_modules_of_either_library(self):
        self.assertEqual(parting(early('module a\n  nothing\n'), early('module b\n  nothing\n')),
                         [('load', 'a')])
        both = 'module a\n  nothing\nmodule b\n  nothing\n'
        for one, other in [('module a\n  nothing\n', both), (both, 'module a\n  nothing\n')]:
            self.assertEqual(parting(early(one), early(other)), [('load', 'b')])
        both = 'module a\n  nothing\nmodule b\n  put n 1\n'
        for one, other in [('module a\n  nothing\n', both), (both, 'module a\n  nothing\n')]:
            self.assertEqual(parting(early(one), early(other)), [('call', 'b', 'n')])

    def test_names_of_either_library(self):
        one = 'module a\n  put m 1\n'
        other = 'module a\n  put m 1\n  put n 1\n'
        for first, second in [(one, other), (other, one)]:
            self.assertEqual(parting(early(first), early(second)), [('call', 'a', 'n')])

    def test_names_are_those_of_the_module_itself(self):
        # Load of a and b, look and call of n of b.
        self.assertEqual(self.count(library('module a\n  nothing\nmodule b\n  put n 1\n')), 4)

    def test_names_that_no_row_gives_are_not_looked_at(self):
        self.assertEqual(self.count(library('module a\n  try\n    drop n\n  else\n    nothing\n')), 1)

    def test_seen_if_table_is_true(self):
        program = library(P)
        worlds = [World(program, Late.whole(program)), World(program)]
        self.assertIsNone(parting(*worlds, eye='values'))
        self.assertIsNone(parting(*worlds, eye='values', table=False))
        self.assertEqual(parting(*worlds, eye='values', table=True), [('call', 'a', 'x'), ('seen', 'b')])

    def test_seen_of_modules_of_either_library(self):
        one = early('module a\n  put n 1\n')
        other = early('module a\n  put n 1\n')
        other.load('a')
        self.assertIsNone(parting(one, other))
        self.assertEqual(parting(one, other, table=True), [('seen', 'a')])
        # c is in one of the libraries alone, and was put into the table there.
        other = early('module a\n  put n 1\nmodule c\n  nothing\n')
        other.load('c')
        self.assertEqual(parting(one, other, table=True), [('load', 'c')])


class TestEyes(unittest.TestCase):

    def of(self, one, other, head=''):
        """What parting tells with each eye where a's rows are z, the head, and one or the other rows."""
        text = 'module a\n  put z 0\n' + head
        worlds = [early(text + ''.join('  %s\n' % row for row in rows)) for rows in (one, other)]
        return by_eyes(*worlds)

    def test_equal_answers_are_alike(self):
        self.assertEqual(self.of(['say 1', 'say 2'], ['say 1', 'say 2']), [None] * 3)

    def test_the_order_of_events(self):
        parted = [[('call', 'a', 'z')], None, None]
        self.assertEqual(self.of(['say 1', 'say 2'], ['say 2', 'say 1']), parted)
        self.assertEqual(self.of(['say 1', 'say 1', 'say 2'], ['say 1', 'say 2', 'say 1']), parted)

    def test_the_order_of_events_of_all_kinds(self):
        head = '  load m a\n  make f\n    nothing\n  make g\n    nothing\n'
        rows = ['say 10', 'tell m', 'tell f', 'say 9', 'tell g', 'say -9', 'tell z', 'tell f']
        parted = [[('call', 'a', 'f')], None, None]
        for other in (rows[::-1], sorted(rows), rows[3:] + rows[:3]):
            self.assertEqual(self.of(rows, other, head), parted)
        self.assertEqual(self.of(rows, rows, head), [None] * 3)
        parted = [[('call', 'a', 'f')], [('call', 'a', 'f')], None]
        for other in (rows[1:], rows + ['tell g'], rows[1:] + ['say 9'], rows[:-1] + ['tell g']):
            self.assertEqual(self.of(rows, other, head), parted)

    def test_how_often_events_come(self):
        parted = [[('call', 'a', 'z')], [('call', 'a', 'z')], None]
        for one, other in [(['say 1', 'say 1', 'say 2'], ['say 1', 'say 2', 'say 2']),
                           (['say 1', 'say 1'], ['say 1']), (['say 1'], []),
                           (['say 1'], ['say 2']), (['say 1'], ['say -1'])]:
            self.assertEqual(self.of(one, other), parted)

    def test_ends(self):
        self.assertEqual(self.of(['put n 1'], ['put n 2']), [[('look', 'a', 'n')]] * 3)
        for one, other in [(['fail 1'], ['fail 2']), (['fail 1'], ['drop n']), (['fail 1'], [])]:
            self.assertEqual(self.of(one, other), [[('call', 'a', 'z')]] * 3)

    def test_each_eye_parts_by_what_it_sees(self):
        one = early('''
            module a
              make f
                say 1
              make g
                say 2
                put n 1
        ''')
        other = early('''
            module a
              make f
                say 3
              make g
                say 2
                put n 2
        ''')
        self.assertEqual(by_eyes(one, other), [
            [('call', 'a', 'f')], [('call', 'a', 'f')], [('call', 'a', 'g'), ('look', 'a', 'n')]])

    def test_bad_eye(self):
        one, other = early(P), all_late(P)
        for eye in NO_EYES:
            with self.assertRaises(BadEye) as caught:
                parting(one, other, eye=eye)
            self.assertIs(caught.exception.eye, eye)
            with self.assertRaises(BadEye) as caught:
                notice(one.program, Late.whole(one.program), eye=eye, table=True)
            self.assertIs(caught.exception.eye, eye)

    def test_an_eye_sees_what_those_behind_it_see(self):
        chance = random.Random(22)
        met = set()
        for _ in range(150):
            program = Program(lively_library(chance))
            late = Late.of(program, random_places(chance, program))
            table = chance.random() < 0.3
            told = []
            for eye in EYES:
                try:
                    told.append(notice(program, late, eye=eye, table=table, most=60))
                except TooMany:
                    told.append('many')
            for sharp, blunt in [(0, 1), (1, 2), (0, 2)]:
                if isinstance(told[blunt], list) and told[sharp] != 'many':
                    self.assertIsNotNone(told[sharp])
                    self.assertLessEqual((len(told[sharp]), told[sharp]), (len(told[blunt]), told[blunt]))
            met.add(tuple(client is None for client in told))
        self.assertLessEqual({(False, False, False), (True, True, True), (False, False, True)}, met)


class TestParting(unittest.TestCase):

    def test_worlds_that_are_alike(self):
        for text in (P, 'module a\n  nothing\n', 'module a\n  fail 1\n'):
            world = early(text)
            self.assertIsNone(parting(world, world))
            self.assertIsNone(parting(world, early(text)))
            self.assertIsNone(parting(world, world.twin(), eye='all', table=True, most=10))

    def test_arguments_by_name(self):
        one, other = early(P), all_late(P)
        self.assertEqual(parting(one=one, other=other), [('call', 'a', 'x')])
        self.assertEqual(parting(other=other, one=one, most=1, table=False, eye='bag'), [('call', 'a', 'x')])
        self.assertRaises(TypeError, parting, one, other, 'all')

    def test_the_least_of_several_clients(self):
        # Shorter ones go ahead of lesser ones.
        one = early('''
            module a
              make f
                put n 1
              make g
                say 4
        ''')
        other = early('''
            module a
              make f
                put n 2
              make g
                say 5
        ''')
        self.assertEqual(parting(one, other), [('call', 'a', 'g')])
        self.assertEqual(parting(one, other, eye='values'), [('call', 'a', 'f'), ('look', 'a', 'n')])

    def test_a_long_client(self):
        text = '''
            module a
              put n 0
              put m 0
              make f
                when n
                  when m
                    put k %d
                  else
                    put m 1
                else
                  put n 1
        '''
        one, other = early(text % 1), early(text % 2)
        self.assertEqual(parting(one, other), [('call', 'a', 'f')] * 3 + [('look', 'a', 'k')])
        # Behind some deeds there are fewer left.
        for world in (one, other):
            world.call('a', 'f')
            world.call('a', 'f')
        self.assertEqual(parting(one, other), [('call', 'a', 'f'), ('look', 'a', 'k')])

    def test_worlds_as_they_stand(self):
        program = library(P)
        one, other = World(program), World(program)
        self.assertIsNone(parting(one, other))
        other.load('b')
        self.assertEqual(parting(one, other), [('call', 'a', 'b')])
        self.assertEqual(parting(one, other, eye='bag'), [('call', 'a', 'b')])
        self.assertIsNone(parting(one, other, eye='values'))
        one.load('b')
        self.assertIsNone(parting(one, other))
        # A world without late places, and one with: unlike when new, and alike behind a touch.
        whole = World(program, Late.whole(program))
        whole.look('a', 'b')
        one.load('a')
        self.assertIsNone(parting(one, whole, table=True))

    def test_worlds_stay_as_they_are(self):
        program = library(P)
        one, other = World(program), World(program, Late.whole(program))
        one.load('b')
        other.load('a')
        before = (shape(one), shape(other))
        self.assertEqual(parting(one, other), [('call', 'a', 'b')])
        self.assertEqual((shape(one), shape(other)), before)
        self.assertRaises(TooMany, parting, one, other, eye='values', most=1)
        self.assertRaises(BadEye, parting, one, other, eye='Values')
        self.assertEqual((shape(one), shape(other)), before)

    def test_what_is_told_is_new(self):
        one, other = early(P), all_late(P)
        client = parting(one, other)
        client.append(('load', 'b'))
        self.assertEqual(parting(one, other), [('call', 'a', 'x')])
        self.assertIs(type(client[0]), tuple)

    def test_worlds_of_two_libraries(self):
        one = early('''
            module a
              load b b
            module b
              say 1
        ''')
        other = early('''
            module a
              say 1
              load b a
        ''')
        # b is absent in the other library; only there a is in the table, and its event told, later on.
        self.assertEqual(by_eyes(one, other), [[('load', 'b')]] * 3)
        other.load('a')
        self.assertEqual(by_eyes(one, other), [[('call', 'a', 'b')], [('call', 'a', 'b')], [('load', 'b')]])
        other = early('''
            module a
              load b b
            module b
              say 1
              say 2
        ''')
        self.assertEqual(by_eyes(one, other), [[('call', 'a', 'b')], [('call', 'a', 'b')], None])

    def test_too_many_where_none_parts(self):
        # Behind clients there are five pairs of states, of which four behind clients of one deed.
        program = library(P)
        worlds = [World(program, Late.whole(program)), World(program)]
        for most in (5, 6, 100, 300):
            self.assertIsNone(parting(*worlds, eye='values', most=most))
        for most in (1, 2, 3, 4):
            with self.assertRaises(TooMany) as caught:
                parting(*worlds, eye='values', most=most)
            self.assertIs(caught.exception.most, most)

    def test_too_many_where_one_parts(self):
        # Four pairs of states lie behind clients of fewer deeds than the two of the least client.
        program = library(P)
        worlds = [World(program, Late.whole(program)), World(program)]
        for most in (4, 5):
            self.assertEqual(parting(*worlds, eye='values', table=True, most=most),
                             [('call', 'a', 'x'), ('seen', 'b')])
        for most in (1, 2, 3):
            self.assertRaises(TooMany, parting, *worlds, eye='values', table=True, most=most)
        # Where the first deed parts, the pair at the beginning alone counts.
        self.assertEqual(parting(*worlds, most=1), [('call', 'a', 'x')])

    def test_bad_eye_goes_ahead_of_too_many(self):
        one, other = early(P), all_late(P)
        self.assertRaises(BadEye, parting, one, other, eye=None, most=1)
        self.assertRaises(TooMany, parting, one, other, eye='values', most=1)

    def test_as_told_word_for_word(self):
        chance = random.Random(23)
        met = {'none': 0, 'many': 0, 'one': 0, 'longer': 0}
        for turn in range(160):
            make = lively_library if turn % 2 == 0 else random_library
            program, second = Program(make(chance)), Program(make(chance))
            second = program if chance.random() < 0.8 else second
            sides = []
            for side in (program, second):
                ahead = random_deeds(chance, chance.choice([0, 0, 1, 2]))
                sides.append(brute.maker(side, random_places(chance, side), ahead))
            eye, table, most = chance.choice(EYES), chance.random() < 0.3, chance.choice([1, 2, 4, 7, 12])
            deeds = brute.deeds_of([program, second], table)
            try:
                wanted = brute.least_parting(*sides, deeds, eye, most)
            except brute.Many:
                self.assertRaises(TooMany, parting, sides[0](), sides[1](), eye=eye, table=table, most=most)
                met['many'] += 1
                continue
            self.assertEqual(parting(sides[0](), sides[1](), eye=eye, table=table, most=most), wanted)
            met['none' if wanted is None else 'one' if len(wanted) == 1 else 'longer'] += 1
        self.assertGreater(min(met.values()), 5, met)


class TestNotice(unittest.TestCase):

    def test_a_new_world_with_the_late_set_and_one_with_the_empty_one(self):
        program = library(P)
        self.assertEqual(notice(program, Late.whole(program)), [('call', 'a', 'x')])
        self.assertEqual(notice(late=Late.whole(program), program=program, eye='bag', table=True, most=1),
                         [('call', 'a', 'x')])
        self.assertIsNone(notice(program, Late.empty(program)))
        self.assertIsNone(notice(program, Late.whole(program), eye='values'))
        self.assertEqual(notice(program, Late.whole(program), eye='values', table=True),
                         [('call', 'a', 'x'), ('seen', 'b')])
        self.assertRaises(TypeError, notice, program, Late.whole(program), 'all')

    def test_no_late_places_are_never_noticed(self):
        chance = random.Random(24)
        for _ in range(30):
            program = Program(random_library(chance))
            try:
                self.assertIsNone(notice(program, Late.empty(program), table=True, most=40))
            except TooMany:
                pass

    def test_it_is_what_parting_tells(self):
        chance = random.Random(25)
        for _ in range(60):
            program = Program(lively_library(chance))
            late = Late.of(program, random_places(chance, program))
            options = {'eye': chance.choice(EYES), 'table': chance.random() < 0.5, 'most': chance.choice([3, 30])}
            told = []
            for ask in (lambda: notice(program, late, **options),
                        lambda: parting(World(program, late), World(program), **options),
                        lambda: parting(World(program), World(program, late), **options)):
                try:
                    told.append(ask())
                except TooMany as error:
                    told.append(('many', error.most))
            self.assertEqual(told, [told[0]] * 3)

    def test_which_error_goes_ahead(self):
        program, other = library(P), library(P)
        for late in (Late.whole(other), Late.empty(other)):
            self.assertRaises(OtherProgram, notice, program, late)
            self.assertRaises(OtherProgram, notice, program, late, eye=7, most=1)
        self.assertRaises(BadEye, notice, program, Late.whole(program), eye=7, most=1)
        with self.assertRaises(TooMany) as caught:
            notice(program, Late.whole(program), eye='values', most=4)
        self.assertEqual(caught.exception.most, 4)
        self.assertIsNone(notice(program, Late.whole(program), eye='values', most=5))


if __name__ == '__main__':
    unittest.main()
