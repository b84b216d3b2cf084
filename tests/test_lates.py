"""[20]: late sets."""

import copy
import itertools
import unittest

from firsttouch.errors import BadPlace, OtherProgram
from firsttouch.lates import Late
from firsttouch.programs import Program
from tests.helpers import library

TEXT = '''
    module a
      say 1
      load x b
      when y
        pick z b w
      else
        try
          nothing
        else
          load v a
    module b
      pick w a x
'''
FIRST = ('a', (1,))
SECOND = ('a', (2, 0, 0))
THIRD = ('a', (2, 1, 0, 1, 0))
FOURTH = ('b', (0,))
ALL = [FIRST, SECOND, THIRD, FOURTH]

# Objects that are no place of the library, some of them nearly one.
NO_PLACES = [
    None, True, 0, 'a', '', (), [], {}, ('a',), ('a', (0,)), ('a', ()), ('a', 1), ('b', 0),
    ('a', (2,)), ('a', (2, 0)), ('c', (0,)), ('b', (False,)), ('a', (True,)), ('a', (2, 0, False)),
    ('a', (2, False, 0)), ('a', [True]), ['b', [False]], ('b', (0,), 0), ('b', '0'), ('b', ('0',)),
    ('b', ((0,),)), (('b',), (0,)), (['b'], (0,)), ({}, (0,)), ('b', {0: 1}), ('b', {}),
    ('b', (None,)), ('b', ([],)), {'b': (0,)}, ((0,), 'b'), (0, 'b'), ('a', (1, 0)), ('a', (-1,)),
    ('b', (0, 0)), ('b', ({},)), [[]], ('aa', (1,)), ('A', (1,)), 'b0', ('b', (10 ** 30,)),
]


def deep():
    thing = []
    for _ in range(5000):
        thing = [thing]
    return thing


class TestLates(unittest.TestCase):

    def setUp(self):
        self.program = library(TEXT)

    def late(self, *places):
        return Late.of(self.program, places)

    def test_whole_and_empty(self):
        self.assertEqual(self.program.places(), ALL)
        for late in (Late.whole(self.program), Late.whole(program=self.program)):
            self.assertEqual((late.places(), len(late)), (ALL, 4))
        for late in (Late.empty(self.program), Late.empty(program=self.program)):
            self.assertEqual((late.places(), len(late)), ([], 0))
        self.assertEqual(Late.whole(Program({'a': []})).places(), [])

    def test_of_some_in_any_order_and_twice(self):
        for places in itertools.permutations([FIRST, THIRD, FOURTH, FIRST]):
            late = Late.of(program=self.program, places=list(places))
            self.assertEqual((late.places(), len(late)), ([FIRST, THIRD, FOURTH], 3))
        self.assertEqual(self.late().places(), [])
        self.assertEqual(Late.of(self.program, self.program.places()).places(), ALL)

    def test_of_lists_for_tuples(self):
        places = [['b', [0]], ('a', [2, 0, 0]), ['a', (2, 0, 0)]]
        for given in (places, tuple(places)):
            self.assertEqual(Late.of(self.program, given).places(), [SECOND, FOURTH])
        self.assertEqual(Late.of(self.program, [['b', [0]]]).places(), [('b', (0,))])
        self.assertIs(type(Late.of(self.program, [['b', [0]]]).places()[0][1]), tuple)

    def test_new_ones_each_time(self):
        for make in (lambda: Late.whole(self.program), lambda: Late.empty(self.program),
                     lambda: self.late(FIRST)):
            self.assertIsNot(make(), make())
            self.assertNotEqual(make(), make())

    def test_refused_places(self):
        for thing in [*NO_PLACES, deep(), ('a', deep())]:
            for places in ([thing], (FIRST, thing), [FOURTH, FIRST, thing, None, FIRST]):
                with self.assertRaises(BadPlace) as caught:
                    Late.of(self.program, places)
                self.assertIs(caught.exception.place, thing)
        with self.assertRaises(BadPlace) as caught:
            Late.of(program=self.program, places=[('b', (1,)), None])
        self.assertEqual(caught.exception.place, ('b', (1,)))

    def test_in(self):
        for places in itertools.chain(*[itertools.combinations(ALL, k) for k in range(5)]):
            late = self.late(*places)
            for place in ALL:
                module, path = place
                for asked in (place, [module, path], (module, list(path)), [module, list(path)]):
                    self.assertIs(asked in late, place in places)
                    self.assertIs(asked not in late, place not in places)

    def test_in_for_any_object(self):
        late = Late.whole(self.program)
        for thing in [*NO_PLACES, deep(), ('a', deep()), late, self.program]:
            self.assertIs(thing in late, False)

    def test_join(self):
        subsets = list(itertools.chain(*[itertools.combinations(ALL, k) for k in range(5)]))
        for some in subsets:
            for more in subsets:
                one, other = self.late(*some), self.late(*more)
                self.assertEqual((one | other).places(), sorted(set(some) | set(more)))
                self.assertEqual((one & other).places(), sorted(set(some) & set(more)))
                self.assertEqual((one - other).places(), sorted(set(some) - set(more)))
                self.assertEqual((one.places(), other.places()), (list(some), list(more)))

    def test_joins_are_new_late_sets(self):
        late = self.late(FIRST)
        for joined in (late | late, late & late, late - self.late()):
            self.assertIsInstance(joined, Late)
            self.assertIsNot(joined, late)
            self.assertEqual((len(joined), FIRST in joined, FOURTH in joined), (1, True, False))
            self.assertEqual((joined | self.late(FOURTH)).places(), [FIRST, FOURTH])

    def test_join_of_another_program(self):
        # An equal library is another one, too.
        other = Late.empty(library(TEXT))
        for late in (Late.whole(self.program), self.late()):
            for join in (lambda: late | other, lambda: other | late, lambda: late & other,
                         lambda: other & late, lambda: late - other, lambda: other - late):
                self.assertRaises(OtherProgram, join)

    def test_what_is_passed_stays_and_may_change_later(self):
        path = [0]
        places = [['b', path], ['a', [1]], ['b', [0]]]
        before = copy.deepcopy(places)
        late = Late.of(self.program, places)
        self.assertEqual(places, before)
        path[0] = 5
        places.clear()
        self.assertEqual(late.places(), [FIRST, FOURTH])

    def test_what_was_returned_may_change(self):
        late = self.late(FIRST, SECOND)
        joined = late | self.late(FOURTH)
        late.places().clear()
        late.places().append(THIRD)
        self.program.places().clear()
        self.assertEqual(late.places(), [FIRST, SECOND])
        self.assertEqual(joined.places(), [FIRST, SECOND, FOURTH])
        self.assertEqual(len(Late.whole(self.program)), 4)


if __name__ == '__main__':
    unittest.main()
