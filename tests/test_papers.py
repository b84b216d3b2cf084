"""[25]: papers, and whether they hold."""

import copy
import random
import unittest

from firsttouch.errors import BadEye, OtherProgram, TooMany
from firsttouch.lates import Late
from firsttouch.parting import notice, paper, paper_holds
from firsttouch.programs import Program
from tests import brute
from tests.helpers import NO_EYES, library, whole
from tests.samples import lively_library, random_library, random_places
from tests.test_parting import EYES, P

TOUCH_B = ('call', 'a', 'b')
LOAD_A = ('call', 'a', 'x')
LOAD_B = ('load', 'b')

# Of P with its one place late, for the eye "values". The deeds of a client are call of b and x of a,
# load of a and b, and look at b and x of a.
PAPER = [
    ([], [1, 2, 2, 3, 1, 2]),
    ([TOUCH_B], [1, 1, 1, 1, 1, 1]),
    ([LOAD_A], [1, 2, 2, 4, 1, 2]),
    ([LOAD_B], [1, 4, 4, 3, 1, 4]),
    ([LOAD_A, LOAD_B], [1, 4, 4, 4, 1, 4]),
]


def listed(thing):
    """The thing with lists in place of its tuples."""
    return [listed(part) for part in thing] if isinstance(thing, (list, tuple)) else thing


def tupled(thing):
    return tuple(tupled(part) for part in thing) if isinstance(thing, (list, tuple)) else thing


class TestPaper(unittest.TestCase):

    def test_a_paper(self):
        program, late = whole(P)
        self.assertEqual(paper(program, late, eye='values'), PAPER)
        self.assertEqual(paper(late=late, program=program, most=5, table=False, eye='values'), PAPER)
        self.assertRaises(TypeError, paper, program, late, 'values')

    def test_the_kinds_of_what_is_told(self):
        program, late = whole(P)
        told = paper(program, late, eye='values')
        self.assertIs(type(told), list)
        for pair in told:
            self.assertEqual([type(thing) for thing in (pair, *pair)], [tuple, list, list])
            self.assertEqual({type(deed) for deed in pair[0]} | {type(place) for place in pair[1]} - {int},
                             {tuple} if pair[0] else set())

    def test_with_the_table(self):
        # Two modules: the deeds are load of each and seen of each.
        program, late = whole('module a\n  nothing\nmodule b\n  nothing\n')
        self.assertEqual(paper(program, late, table=True), [
            ([], [1, 2, 0, 0]),
            ([('load', 'a')], [1, 3, 1, 1]),
            ([('load', 'b')], [3, 2, 2, 2]),
            ([('load', 'a'), ('load', 'b')], [3, 3, 3, 3]),
        ])

    def test_none_where_the_set_is_noticed(self):
        program, late = whole(P)
        self.assertIsNone(paper(program, late))
        self.assertIsNone(paper(program, late, eye='bag', most=1))
        self.assertIsNone(paper(program, late, eye='values', table=True, most=4))

    def test_what_is_told_is_new(self):
        program, late = whole(P)
        told = paper(program, late, eye='values')
        told[0][0].append(LOAD_B)
        told[1][1][0] = 7
        told[2][0].clear()
        self.assertEqual(paper(program, late, eye='values'), PAPER)
        # Nor do two of its pairs share a list.
        lists = [id(thing) for pair in told for thing in pair]
        self.assertEqual(len(lists), len(set(lists)))

    def test_errors(self):
        program, late = whole(P)
        other = Late.whole(library(P))
        for eye in NO_EYES:
            self.assertRaises(OtherProgram, paper, program, other, eye=eye, most=1)
            self.assertRaises(OtherProgram, paper_holds, program, other, None, eye=eye)
            for ask in (lambda: paper(program, late, eye=eye, most=1),
                        lambda: paper_holds(program, late, [], eye=eye),
                        lambda: paper_holds(program, late, PAPER, eye=eye, table=True)):
                with self.assertRaises(BadEye) as caught:
                    ask()
                self.assertIs(caught.exception.eye, eye)
        with self.assertRaises(TooMany) as caught:
            paper(program, late, eye='values', most=4)
        self.assertEqual(caught.exception.most, 4)
        with self.assertRaises(TooMany) as caught:
            paper(program, late, eye='values', table=True, most=3)

    def test_papers_as_told_word_for_word(self):
        chance = random.Random(25)
        told = 0
        for _ in range(60):
            program = Program(lively_library(chance))
            places, table, eye = random_places(chance, program), chance.random() < 0.3, chance.choice(EYES)
            try:
                found = paper(program, Late.of(program, places), eye=eye, table=table, most=15)
            except TooMany:
                continue
            if found is None:
                continue
            deeds = brute.deeds_of([program], table)
            one, other = brute.maker(program, places), brute.maker(program)
            pairs = brute.all_pairs(one, other, deeds)
            order = sorted(pairs.values(), key=lambda client: (len(client), client))
            self.assertEqual([client for client, _ in found], [list(client) for client in order])
            for client, behind in found:
                wanted = [order.index(pairs[brute.led(one, other, client + [deed])[1]]) for deed in deeds]
                self.assertEqual(behind, wanted)
            told += 1
        self.assertGreater(told, 10)


class TestHolding(unittest.TestCase):

    def setUp(self):
        self.program, self.late = whole(P)

    def holds(self, thing, **options):
        told = paper_holds(self.program, self.late, thing, **{'eye': 'values', **options})
        self.assertIs(type(told), bool)
        return told

    def test_papers_that_were_told_hold(self):
        self.assertTrue(self.holds(PAPER))
        self.assertTrue(paper_holds(paper=PAPER, late=self.late, program=self.program, table=False, eye='values'))
        chance = random.Random(26)
        for _ in range(60):
            program = Program(random_library(chance))
            late = Late.of(program, random_places(chance, program))
            options = {'eye': chance.choice(EYES), 'table': chance.random() < 0.3}
            try:
                found = paper(program, late, most=30, **options)
            except TooMany:
                continue
            if found is not None:
                self.assertTrue(paper_holds(program, late, found, **options))
                self.assertTrue(paper_holds(program, late, listed(found), **options))
                self.assertTrue(paper_holds(program, late, tupled(found), **options))

    def test_with_another_eye_table_or_late_set(self):
        self.assertFalse(self.holds(PAPER, eye='all'))
        self.assertFalse(self.holds(PAPER, eye='bag'))
        self.assertFalse(paper_holds(self.program, self.late, PAPER))
        self.assertFalse(self.holds(PAPER, table=True))

    def test_with_another_late_set(self):
        empty = Late.empty(self.program)
        # Without late places several of the clients lead to the same states, which does no harm.
        self.assertTrue(paper_holds(self.program, empty, PAPER, eye='values'))
        self.assertTrue(paper_holds(self.program, empty, PAPER))
        shorter = paper(self.program, empty, eye='values')
        self.assertEqual(shorter, [([], [1, 1, 1, 2, 1, 1]), ([TOUCH_B], [1] * 6), ([LOAD_B], [1, 1, 1, 2, 1, 1])])
        self.assertTrue(paper_holds(self.program, empty, shorter))
        self.assertFalse(self.holds(shorter))

    def test_lists_and_tuples(self):
        for thing in (listed(PAPER), tupled(PAPER), tuple(PAPER), [list(pair) for pair in PAPER]):
            self.assertTrue(self.holds(thing))

    def test_pairs_in_another_order(self):
        # Behind the first pair, in which the client is empty, any order will do.
        order = [0, 3, 1, 4, 2]
        thing = [(PAPER[k][0], [order.index(place) for place in PAPER[k][1]]) for k in order]
        self.assertTrue(self.holds(thing))
        self.assertFalse(self.holds([thing[1], thing[0], *thing[2:]]))

    def test_other_clients_that_lead_there(self):
        thing = copy.deepcopy(PAPER)
        thing[1] = ([('look', 'a', 'b')], thing[1][1])
        thing[2] = ([('load', 'zz'), ('seen', 'a'), ('look', 'zz', 'k'), ('load', 'a')] * 3, thing[2][1])
        thing[4] = ([LOAD_B, LOAD_B, ['call', 'a', 'x']], thing[4][1])
        self.assertTrue(self.holds(thing))
        thing[1] = ([('load', 'a')], thing[1][1])
        self.assertFalse(self.holds(thing))

    def test_more_pairs_than_are_needed(self):
        again = PAPER + [([], PAPER[0][1]), ([TOUCH_B, LOAD_B], [1, 6, 1, 6, 1, 1])]
        self.assertTrue(self.holds(again))
        # Each of them counts, if there is need of it or not.
        self.assertFalse(self.holds(PAPER + [([], [1, 2, 2, 2, 1, 2])]))

    def test_the_answers_to_a_client_of_the_paper_do_not_count(self):
        # Its deeds are seen by no client where table is False; what they lead to counts alone.
        self.assertTrue(self.holds([*PAPER[:4], ([LOAD_A, ('seen', 'b'), LOAD_B], PAPER[4][1])]))
        self.assertFalse(self.holds([*PAPER[:4], ([LOAD_A, ('seen', 'b')], PAPER[4][1])]))

    def test_each_place_counts(self):
        for number, (_, behind) in enumerate(PAPER):
            for at, place in enumerate(behind):
                for other in [*range(-6, 7), True, False, None, str(place), [place], (place,), {}, {place: 1}]:
                    thing = copy.deepcopy(PAPER)
                    thing[number][1][at] = other
                    right = type(other) is int and other == place
                    self.assertEqual(self.holds(thing), right, (number, at, other))

    def test_a_truth_is_no_place(self):
        program, late = whole('module a\n  nothing\n')
        self.assertTrue(paper_holds(program, late, [([], [1]), ([('load', 'a')], [1])]))
        self.assertFalse(paper_holds(program, late, [([], [True]), ([('load', 'a')], [1])]))
        self.assertFalse(paper_holds(program, late, [([], [1]), ([('load', 'a')], [True])]))

    def test_the_number_of_places(self):
        for number in range(len(PAPER)):
            for change in (lambda behind: behind.pop(), lambda behind: behind.append(behind[-1]),
                           lambda behind: behind.clear()):
                thing = copy.deepcopy(PAPER)
                change(thing[number][1])
                self.assertFalse(self.holds(thing))

    def test_a_pair_that_is_missing(self):
        for number in range(len(PAPER)):
            self.assertFalse(self.holds(PAPER[:number] + PAPER[number + 1:]))

    def test_each_deed_counts(self):
        for number, (client, _) in enumerate(PAPER):
            for at in range(len(client)):
                for deed in (('load', 'a', 'b'), ('load',), (), None, 'load', ('load', 'A'), ('do', 'a'), 5,
                             ['load', True], {'load': 'b'}, ('seen', 'b'), [('load', 'b')], ['load', ['b']]):
                    thing = copy.deepcopy(PAPER)
                    thing[number][0][at] = deed
                    self.assertFalse(self.holds(thing), (number, at, deed))

    def test_objects_that_are_no_papers(self):
        for thing in (None, True, False, 0, 1, '', 'paper', [], (), {}, [[]], [()], [[], []], ([], []),
                      [([], [])], {(): ()}, {'a': 1}, [None], [([],)], [([], [0] * 6, [])], [(None, [0] * 6)],
                      [([], None)], [({}, [0] * 6)], [([], {})], [('', [0] * 6)], [([], '000000')], ['ab'],
                      [{0: [], 1: [0] * 6}], [5], [([], [0] * 6)], [([], (0,) * 6)], [[[[]], [0] * 6]],
                      {0: PAPER[0]}, [PAPER], PAPER[0], PAPER + [None], PAPER + [()], PAPER + [([], [])],
                      PAPER + [(None, PAPER[1][1])], PAPER + [('a', PAPER[1][1])], PAPER + [(PAPER[1][1], [])],
                      [PAPER[0] + ([],)] + PAPER[1:], [(None, PAPER[0][1])] + PAPER[1:],
                      [({}, PAPER[0][1])] + PAPER[1:], [('', PAPER[0][1])] + PAPER[1:]):
            self.assertFalse(self.holds(thing), thing)

    def test_the_first_client_is_empty(self):
        # Whatever stands behind it holds, but from another beginning.
        self.assertFalse(self.holds([([TOUCH_B], [0] * 6)]))
        self.assertFalse(self.holds([([TOUCH_B], [0] * 6), *[(client, behind) for client, behind in PAPER]]))
        self.assertFalse(self.holds(PAPER[1:] + PAPER[:1]))

    def test_deep_objects(self):
        deep = []
        for _ in range(5000):
            deep = [deep]
        pair = ([deep], PAPER[0][1])
        for thing in (deep, [deep], [pair], PAPER + [pair], PAPER + [([], deep)], PAPER + [([TOUCH_B], [deep] * 6)]):
            self.assertFalse(self.holds(thing))

    def test_what_is_passed_stays(self):
        thing = copy.deepcopy(PAPER)
        self.holds(thing)
        self.assertEqual(thing, PAPER)

    def test_a_long_paper(self):
        program = library('''
            module a
              put p 1
              put q 1
              make f
                when p
                  put p 0
                else
                  when q
                    put q 0
                  else
                    when r
                      put r 0
                    else
                      put s 1
              put r 1
        ''')
        late = Late.empty(program)
        found = paper(program, late)
        self.assertEqual(max(len(client) for client, _ in found), 4)
        self.assertTrue(paper_holds(program, late, found))

    def test_if_one_holds_no_client_notices(self):
        chance = random.Random(27)
        met = {True: 0, False: 0}
        for _ in range(80):
            program = Program(lively_library(chance))
            late = Late.of(program, random_places(chance, program))
            try:
                found = paper(program, late, eye='values', most=12)
            except TooMany:
                continue
            if found is None:
                continue
            for _ in range(10):
                thing = copy.deepcopy(found)
                behind = chance.choice(thing)[1]
                behind[chance.randrange(len(behind))] = chance.randrange(len(thing))
                options = {'eye': chance.choice(EYES), 'table': chance.random() < 0.2}
                holds = paper_holds(program, late, thing, **options)
                met[holds] += 1
                if holds:
                    self.assertIsNone(notice(program, late, **options))
        self.assertGreater(min(met.values()), 10, met)


if __name__ == '__main__':
    unittest.main()
