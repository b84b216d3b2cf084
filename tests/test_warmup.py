"""[31]: warm_up."""

import random
import unittest

from firsttouch.errors import BadEye, TooMany
from firsttouch.parting import parting, warm_up
from firsttouch.programs import Program
from tests import brute
from tests.helpers import NO_EYES, all_late, early, late, shape
from tests.samples import lively_library, random_deeds, random_library, random_places
from tests.test_parting import EYES, P


class TestWarmUp(unittest.TestCase):

    def test_worlds_that_nobody_parts(self):
        self.assertEqual(warm_up(early(P), early(P)), [])
        self.assertEqual(warm_up(early(P), all_late(P), eye='values'), [])

    def test_the_least_client(self):
        one, other = early(P), all_late(P)
        self.assertEqual(warm_up(one, other), [('call', 'a', 'b')])
        self.assertEqual(warm_up(other=one, one=other, most=30, eye='bag', table=False), [('call', 'a', 'b')])
        self.assertEqual(warm_up(one, other, table=True), [('call', 'a', 'b')])
        self.assertRaises(TypeError, warm_up, one, other, 'all')
        # Behind load of a, b was run early, and is promised late.
        one.load('a')
        other.load('a')
        self.assertEqual(warm_up(one, other, eye='bag'), [('call', 'a', 'b')])
        self.assertEqual(parting(one, other), [('call', 'a', 'b')])

    def test_behind_it_no_client_parts(self):
        one, other = early(P), all_late(P)
        for deed in warm_up(one, other):
            one.do(deed)
            other.do(deed)
        self.assertIsNone(parting(one, other))
        self.assertEqual(warm_up(one, other), [])

    def test_its_own_answers_may_be_unlike(self):
        text = '''
            module a
              load x b
              say 1
              copy x x
            module b
              say 2
        '''
        one, other = early(text), all_late(text)
        self.assertEqual(parting(one, other), [('call', 'a', 'x')])
        self.assertEqual(warm_up(one, other), [('call', 'a', 'x')])
        self.assertNotEqual(one.call('a', 'x'), other.call('a', 'x'))

    def test_a_client_of_several_deeds(self):
        text = '''
            module a
              load b b
              put x 1
            module b
              say 5
            module c
              load d d
            module d
              say 6
        '''
        self.assertEqual(warm_up(early(text), all_late(text)), [('call', 'a', 'b'), ('call', 'c', 'd')])
        self.assertEqual(warm_up(early(text), late(text, ('c', (0,)))), [('call', 'c', 'd')])
        one, other = early(text), all_late(text)
        other.load('d')
        one.load('d')
        self.assertEqual(warm_up(one, other), [('call', 'a', 'b')])

    def test_a_client_that_goes_on_behind_unlike_answers(self):
        # A look at n is unlike up to the second call of g.
        text = '''
            module a
              put n %d
              make g
                when m
                  put n 3
                else
                  put m 1
              put m 0
        '''
        one, other = early(text % 1), early(text % 2)
        self.assertEqual(parting(one, other), [('look', 'a', 'n')])
        self.assertEqual(warm_up(one, other), [('call', 'a', 'g')] * 2)

    def test_none(self):
        one, other = early('module a\n  put n 1\n'), early('module a\n  put n 2\n')
        self.assertIsNone(warm_up(one, other))
        text = '''
            module a
              pick x b y
              put z 1
            module b
              pick w a z
              put y 2
        '''
        self.assertIsNone(warm_up(early(text), all_late(text), eye='values'))

    def test_too_many_pairs_whatever_is_answered(self):
        # Five pairs of states lie behind clients, though the first deed parts the worlds.
        one, other = early(P), all_late(P)
        for most in (5, 6, 300):
            self.assertEqual(warm_up(one, other, most=most), [('call', 'a', 'b')])
        for most in (1, 2, 3, 4):
            for eye in EYES:
                with self.assertRaises(TooMany) as caught:
                    warm_up(one, other, eye=eye, most=most)
                self.assertIs(caught.exception.most, most)
        # Also where the empty client will do.
        self.assertEqual(warm_up(one, one, most=3), [])
        self.assertRaises(TooMany, warm_up, one, one, most=2)
        self.assertEqual(parting(one, other, most=1), [('call', 'a', 'x')])

    def test_bad_eye_goes_ahead(self):
        one, other = early(P), all_late(P)
        for eye in NO_EYES:
            with self.assertRaises(BadEye) as caught:
                warm_up(one, other, eye=eye, most=1)
            self.assertIs(caught.exception.eye, eye)

    def test_worlds_stay_as_they_are(self):
        one, other = early(P), all_late(P)
        other.load('a')
        before = (shape(one), shape(other))
        # Behind load of a, touching b by call is the least that both have done.
        self.assertEqual(warm_up(one, other), [('call', 'a', 'b')])
        self.assertRaises(TooMany, warm_up, one, other, most=1)
        self.assertEqual((shape(one), shape(other)), before)

    def test_what_is_told_is_new(self):
        one, other = early(P), all_late(P)
        warm_up(one, other).clear()
        told = warm_up(one, other)
        self.assertEqual(told, [('call', 'a', 'b')])
        self.assertEqual([type(told), type(told[0])], [list, tuple])
        warm_up(one, one).append(1)
        self.assertEqual(warm_up(one, one), [])

    def test_worlds_of_two_libraries(self):
        one = early('''
            module a
              put n 1
              make f
                put n 3
        ''')
        other = early('''
            module a
              put n 2
              make f
                put n 3
                put k 1
                drop k
        ''')
        self.assertEqual(warm_up(one, other), [('call', 'a', 'f')])

    def test_as_told_word_for_word(self):
        chance = random.Random(31)
        met = {'none': 0, 'empty': 0, 'one': 0, 'longer': 0}
        for turn in range(120):
            make = lively_library if turn % 3 else random_library
            program = Program(make(chance))
            table, eye = chance.random() < 0.3, chance.choice(EYES)
            deeds = brute.deeds_of([program], table)
            sides = [(random_places(chance, program), random_deeds(chance, chance.choice([0, 0, 1])))
                     for _ in range(2)]
            one, other = [brute.maker(program, *side) for side in sides]
            try:
                found = warm_up(one(), other(), eye=eye, table=table, most=14)
            except TooMany:
                continue
            pairs = brute.all_pairs(one, other, deeds)
            self.assertEqual(found, brute.least_warming(one, other, deeds, eye, pairs))
            warm_up(one(), other(), eye=eye, table=table, most=len(pairs))
            if len(pairs) > 1:
                self.assertRaises(TooMany, warm_up, one(), other(), eye=eye, table=table, most=len(pairs) - 1)
            met['none' if found is None else ['empty', 'one', 'longer'][min(len(found), 2)]] += 1
        self.assertGreater(min(met['none'], met['empty'], met['one']), 3, met)


if __name__ == '__main__':
    unittest.main()
