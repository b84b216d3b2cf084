"""[27] to [30], [32]: all late sets: their classes, the hidden ones, and the best of these."""

import random
import unittest

from firsttouch.errors import BadDeed, BadEye, OtherProgram, TooMany
from firsttouch.lates import Late
from firsttouch.parting import notice
from firsttouch.programs import Program
from firsttouch.sets import classes, greatest, hidden, nearest, quickest
from firsttouch.worlds import World
from tests import brute
from tests.helpers import NO_EYES, library
from tests.samples import lively_library, random_deeds, random_places, still_library
from tests.test_parting import EYES, P
from tests.test_worlds import NO_DEEDS

Q = '''
    module a
      load b b
      load c c
      copy x b
      copy y c
    module b
      say 1
    module c
      say 2
'''
FIRST = ('a', (0,))
SECOND = ('a', (1,))
THIRD = ('a', (2,))
NO_PLACES = 'module a\n  say 1\n'

# Early 1, 2 and 3 are said in this order; what is late is said behind all that is early.
LADDER = '''
    module a
      load b b
      load c c
      load d d
      copy x b
      copy y c
      copy z d
    module b
      say 1
    module c
      say 2
    module d
      say 3
'''


def ask_all(program):
    """Each function of all late sets, with what it needs besides the program."""
    late = Late.empty(program)
    return [
        lambda **options: classes(program, **options),
        lambda **options: hidden(program, **options),
        lambda **options: greatest(program, **options),
        lambda **options: nearest(program, late, **options),
        lambda **options: quickest(program, [], **options),
    ]


class TestClasses(unittest.TestCase):

    def test_classes(self):
        program = library(Q)
        self.assertEqual(classes(program), [[[], [SECOND], [FIRST, SECOND]], [[FIRST]]])
        self.assertEqual(classes(program=program, most=20, table=False, eye='bag'),
                         [[[], [FIRST], [SECOND], [FIRST, SECOND]]])
        self.assertRaises(TypeError, classes, program, 'all')

    def test_no_places(self):
        program = library(NO_PLACES)
        self.assertEqual(classes(program), [[[]]])
        self.assertEqual(hidden(program), [[]])
        self.assertEqual(greatest(program), ([], []))
        self.assertEqual(nearest(program, Late.empty(program)), [])
        self.assertEqual(quickest(program, [[('load', 'a')]]), ([], 1))

    def test_classes_of_sets_that_are_all_noticed(self):
        # Late sets that are noticed may well be alike.
        program = library('''
            module a
              load b b
              load c b
              say 1
            module b
              say 2
        ''')
        self.assertEqual(classes(program), [[[], [FIRST], [SECOND]], [[FIRST, SECOND]]])
        self.assertEqual(classes(program, eye='values'), [[[], [FIRST], [SECOND], [FIRST, SECOND]]])
        program = library('''
            module a
              load b b
              load c c
              say 1
            module b
              say 2
            module c
              nothing
        ''')
        self.assertEqual(classes(program), [[[], [SECOND]], [[FIRST], [FIRST, SECOND]]])

    def test_the_order_of_sets_and_classes(self):
        program = library(LADDER)
        told = classes(program)
        self.assertEqual(told, brute.classes(program, brute.deeds_of([program], False), 'all'))
        self.assertEqual(told, [
            [[], [THIRD], [SECOND, THIRD], [FIRST, SECOND, THIRD]],
            [[FIRST]], [[SECOND]], [[FIRST, SECOND]], [[FIRST, THIRD]]])
        # Places in blocks: as Python orders lists of pairs.
        program = library('''
            module a
              make f
                load x b
              load y b
            module b
              load z a
        ''')
        inner, other = ('a', (0, 0, 0)), ('b', (0,))
        self.assertEqual(classes(program, eye='values')[0], [
            [], [inner], [SECOND], [other], [inner, SECOND], [inner, other], [SECOND, other],
            [inner, SECOND, other]])

    def test_with_the_table(self):
        program = library(P)
        self.assertEqual(classes(program, eye='values'), [[[], [FIRST]]])
        self.assertEqual(classes(program, eye='values', table=True), [[[]], [[FIRST]]])

    def test_what_is_told_is_new(self):
        program = library(Q)
        told = classes(program)
        told[0][1].append(1)
        told[0].clear()
        self.assertEqual(classes(program)[0], [[], [SECOND], [FIRST, SECOND]])
        self.assertIs(type(told[1][0]), list)
        self.assertEqual([type(thing) for thing in (told[1][0][0], *told[1][0][0])], [tuple, str, tuple])

    def test_what_was_told_may_be_passed_on(self):
        program = library(Q)
        for places in hidden(program):
            late = Late.of(program, places)
            self.assertEqual(late.places(), places)
            self.assertIsNone(notice(program, late))

    def test_as_told_word_for_word(self):
        chance = random.Random(27)
        many = parted = 0
        for _ in range(60):
            program = Program(lively_library(chance))
            if len(program.places()) > 2:
                continue
            eye, table, most = chance.choice(EYES), chance.random() < 0.3, chance.choice([4, 25, 25])
            deeds = brute.deeds_of([program], table)
            counts = [brute.state_count(brute.maker(program, places), deeds)
                      for places in brute.all_sets(program)]
            options = {'eye': eye, 'table': table, 'most': most}
            if max(counts) > most:
                for ask in ask_all(program):
                    self.assertRaises(TooMany, ask, **options)
                many += 1
                continue
            found = brute.classes(program, deeds, eye)
            self.assertEqual(classes(program, **options), found)
            self.assertEqual(hidden(program, **options), found[0])
            parted += len(found) > 1
        self.assertGreater(min(many, parted), 4, (many, parted))


class TestHidden(unittest.TestCase):

    def test_hidden(self):
        program = library(Q)
        self.assertEqual(hidden(program), [[], [SECOND], [FIRST, SECOND]])
        self.assertEqual(hidden(program=program, eye='values', table=True, most=30),
                         [[], [FIRST], [SECOND], [FIRST, SECOND]])
        self.assertEqual(hidden(library(P)), [[]])
        self.assertEqual(hidden(library(P), eye='values'), [[], [FIRST]])
        self.assertEqual(hidden(library(P), eye='values', table=True), [[]])

    def test_hidden_together_of_which_one_alone_is_noticed(self):
        program = library(Q)
        self.assertEqual(notice(program, Late.of(program, [FIRST])), [('call', 'a', 'b')])
        self.assertIsNone(notice(program, Late.of(program, [FIRST, SECOND])))
        self.assertNotIn([FIRST], hidden(program))
        self.assertIn([FIRST, SECOND], hidden(program))

    def test_a_module_that_names_itself(self):
        program = library('''
            module a
              load x a
              put y 1
              pick z a y
        ''')
        self.assertEqual(hidden(program, table=True), [[], [FIRST], [THIRD], [FIRST, THIRD]])
        program = library('''
            module a
              pick z a y
              put y 1
        ''')
        self.assertEqual(hidden(program), [[]])
        self.assertEqual(greatest(program), ([], [([FIRST], [('call', 'a', 'y')])]))

    def test_hidden_sets_are_those_that_nobody_notices(self):
        chance = random.Random(28)
        for _ in range(40):
            program = Program(lively_library(chance))
            options = {'eye': chance.choice(EYES), 'table': chance.random() < 0.3}
            try:
                found = hidden(program, most=40, **options)
            except TooMany:
                continue
            for places in brute.all_sets(program):
                try:
                    client = notice(program, Late.of(program, places), most=200, **options)
                except TooMany:
                    continue
                self.assertEqual(places in found, client is None)


class TestGreatest(unittest.TestCase):

    def test_greatest(self):
        program = library(Q)
        self.assertEqual(greatest(program), ([FIRST, SECOND], []))
        self.assertEqual(greatest(program=program, eye='all', table=False, most=100), ([FIRST, SECOND], []))
        self.assertEqual(greatest(library(P)), ([], [([FIRST], [('call', 'a', 'x')])]))
        self.assertEqual(greatest(library(P), eye='values'), ([FIRST], []))
        self.assertEqual(greatest(library(P), eye='values', table=True),
                         ([], [([FIRST], [('call', 'a', 'x'), ('seen', 'b')])]))

    def test_the_least_of_several_and_all_that_are_greater(self):
        program = library('''
            module a
              load b b
              load c b
              load d b
              say 1
            module b
              say 2
        ''')
        self.assertEqual(greatest(program), (
            [FIRST, SECOND], [([FIRST, SECOND, THIRD], [('call', 'a', 'b')])]))

    def test_the_order_of_those_that_are_greater(self):
        # One load of b may be late, and one load of d.
        program = library('''
            module a
              load b b
              load c b
              say 1
              load d d
              load e d
              say 1
            module b
              say 2
            module d
              say 3
        ''')
        one, two, three, four = program.places()
        noticed = [('call', 'a', 'b')]
        self.assertEqual(greatest(program), ([one, three], [
            ([one, two, three], noticed), ([one, two, four], noticed), ([one, three, four], noticed),
            ([two, three, four], noticed), ([one, two, three, four], noticed)]))
        # The bag finds the same events in load of a and of what is touched:
        # what is missing is 2 at a touch of d, or 3 at one of b.
        other = [('call', 'a', 'd')]
        self.assertEqual(greatest(program, eye='bag'), ([one, three], [
            ([one, two, three], other), ([one, two, four], other), ([one, three, four], noticed),
            ([two, three, four], noticed), ([one, two, three, four], noticed)]))
        self.assertEqual(greatest(program, eye='values'), ([one, two, three, four], []))

    def test_however_many_pairs_there_are(self):
        # f gets b early and not late; h tells so behind its third call.
        program = library('''
            module a
              put n 0
              make f
                load x b
                put x 0
              make h
                when n
                  when m
                    seen k b
                  else
                    put m 1
                else
                  put n 1
                  put m 0
              put x 0
            module b
              nothing
        ''')
        late = Late.whole(program)
        client = [('call', 'a', 'f'), ('call', 'a', 'h'), ('call', 'a', 'h'), ('call', 'a', 'h'), ('look', 'a', 'k')]
        self.assertEqual(notice(program, late), client)
        for most in (11, 12):
            # In each world clients lead to eleven states, but to more pairs of them.
            self.assertRaises(TooMany, notice, program, late, most=most)
            self.assertEqual(greatest(program, most=most), ([], [(late.places(), client)]))
        self.assertRaises(TooMany, greatest, program, most=10)

    def test_as_told_word_for_word(self):
        chance = random.Random(29)
        above = 0
        for _ in range(60):
            program = Program(lively_library(chance))
            options = {'eye': chance.choice(EYES), 'table': chance.random() < 0.3, 'most': 30}
            try:
                found = hidden(program, **options)
            except TooMany:
                continue
            best = max(found, key=len)
            wanted = [(places, notice(program, Late.of(program, places), **{**options, 'most': 300}))
                      for places in brute.all_sets(program) if len(places) > len(best)]
            self.assertEqual(greatest(program, **options), (best, wanted))
            above += len(wanted) > 1
        self.assertGreater(above, 3)

    def test_what_is_told_is_new(self):
        program = library(P)
        told = greatest(program)
        self.assertEqual([type(thing) for thing in (told, *told, told[1][0], *told[1][0])],
                         [tuple, list, list, tuple, list, list])
        told[0].append(1)
        told[1][0][1].clear()
        self.assertEqual(greatest(program), ([], [([FIRST], [('call', 'a', 'x')])]))


class TestNearest(unittest.TestCase):

    def test_nearest(self):
        program = library(Q)
        for places, found in [([], []), ([SECOND], [SECOND]), ([FIRST, SECOND], [FIRST, SECOND])]:
            self.assertEqual(nearest(program, Late.of(program, places)), found)
        # The empty set and that of both are as near; the empty one is less.
        self.assertEqual(nearest(program, Late.of(program, [FIRST])), [])
        self.assertEqual(nearest(late=Late.of(program, [FIRST]), program=program, eye='bag', table=False, most=9),
                         [FIRST])
        self.assertRaises(TypeError, nearest, program, Late.empty(program), 'all')

    def test_more_and_less_count_alike(self):
        program = library(LADDER)
        # Hidden are none, the third, the last two, and all three.
        for places, found in [([FIRST, SECOND], [FIRST, SECOND, THIRD]), ([FIRST, THIRD], [THIRD]),
                              ([SECOND], []), ([FIRST], []), ([SECOND, THIRD], [SECOND, THIRD])]:
            self.assertEqual(nearest(program, Late.of(program, places)), found)

    def test_as_told_word_for_word(self):
        chance = random.Random(30)
        for _ in range(40):
            program = Program(lively_library(chance))
            wish = random_places(chance, program)
            options = {'eye': chance.choice(EYES), 'table': chance.random() < 0.3, 'most': 30}
            try:
                found = hidden(program, **options)
            except TooMany:
                continue
            wanted = min(found, key=lambda places: (len(set(places) ^ set(wish)), len(places), places))
            self.assertEqual(nearest(program, Late.of(program, wish), **options), wanted)

    def test_another_program_goes_ahead(self):
        program = library(Q)
        for late in (Late.whole(library(Q)), Late.empty(library(Q))):
            for eye in ('all', 'values', None, []):
                self.assertRaises(OtherProgram, nearest, program, late, eye=eye, most=1)


class TestQuickest(unittest.TestCase):

    # Late loads are hidden here, as nothing is said; b has three rows, c one.
    TEXT = '''
        module a
          load b b
          load c c
          put x 1
        module b
          put k 1
          put l 2
          put m 3
        module c
          put n 4
    '''

    def test_quickest(self):
        program = library(self.TEXT)
        self.assertEqual(quickest(program, [[('load', 'a')]]), ([FIRST, SECOND], 3))
        self.assertEqual(quickest(clients=[[('load', 'a')]], program=program, eye='values', most=30, table=False),
                         ([FIRST, SECOND], 3))
        # With the table the late sets are noticed.
        self.assertEqual(quickest(program, [[('load', 'a')]], table=True), ([], 7))
        self.assertRaises(TypeError, quickest, program, [], 'all')

    def test_the_least_of_several(self):
        program = library(self.TEXT)
        self.assertEqual(quickest(program, [[('look', 'a', 'b')]]), ([SECOND], 6))
        self.assertEqual(quickest(program, [[('look', 'a', 'c'), ('load', 'b')]]), ([], 7))
        self.assertEqual(quickest(program, [[('look', 'a', 'c')]]), ([FIRST], 4))

    def test_each_client_in_a_new_world(self):
        program = library(self.TEXT)
        self.assertEqual(quickest(program, [[('load', 'a')], [('load', 'a')]]), ([FIRST, SECOND], 6))
        self.assertEqual(quickest(program, [[('load', 'a'), ('load', 'a')]]), ([FIRST, SECOND], 3))
        self.assertEqual(quickest(program, [[('load', 'a')], [('load', 'c')], [('look', 'a', 'c')]]),
                         ([FIRST, SECOND], 8))
        self.assertEqual(quickest(program, [[('look', 'a', 'c')], [('load', 'c')], [('look', 'a', 'c')]]),
                         ([FIRST], 9))

    def test_no_clients_and_empty_clients(self):
        program = library(self.TEXT)
        for clients in ([], (), [[]], [()], ([], []), [[], ()]):
            self.assertEqual(quickest(program, clients), ([], 0))

    def test_clients_as_lists_and_as_tuples(self):
        program = library(self.TEXT)
        deeds = [('load', 'a'), ('seen', 'zz'), ('load', 'zz'), ('call', 'zz', 'q')]
        for clients in ([deeds], (deeds,), (tuple(deeds),), [tuple(deeds)], [[list(deed) for deed in deeds]]):
            self.assertEqual(quickest(program, clients), ([FIRST, SECOND], 3))

    def test_rows_are_those_that_are_begun_in_modules_blocks_and_functions(self):
        program = library('''
            module a
              load b b
              make f
                try
                  tell b
                else
                  nothing
            module b
              put k 1
        ''')
        self.assertEqual(quickest(program, [[('call', 'a', 'f')]]), ([], 5))
        self.assertEqual(quickest(program, [[('look', 'a', 'f')]]), ([FIRST], 2))

    def test_a_set_that_is_noticed_is_not_told(self):
        program = library(Q)
        # The first place late alone would begin no fewer rows; all begin six.
        self.assertEqual(quickest(program, [[('load', 'a')]]), ([], 6))
        program = library(P)
        self.assertEqual(quickest(program, [[('load', 'a')]]), ([], 3))
        self.assertEqual(quickest(program, [[('load', 'a')]], eye='values'), ([FIRST], 2))

    def test_as_told_word_for_word(self):
        chance = random.Random(31)
        late = 0
        for _ in range(120):
            program = Program(still_library(chance))
            clients = [random_deeds(chance, chance.randint(0, 3)) for _ in range(chance.randint(0, 3))]
            found = []
            try:
                for places in hidden(program, most=60):
                    begun = 0
                    for client in clients:
                        world = World(program, Late.of(program, places))
                        begun += sum(1 for deed in client if world.do(deed) is None) + world.begun()
                    found.append((begun, len(places), places))
            except TooMany:
                continue
            self.assertEqual(quickest(program, clients, most=60), (min(found)[2], min(found)[0]))
            late += min(found)[2] != []
        self.assertGreater(late, 10)

    def test_no_deeds_at_any_place(self):
        program = library(Q)
        load = ('load', 'a')
        for thing in NO_DEEDS:
            for clients in ([[thing]], [[load, thing]], [[], [load], [load, load, thing], [None]],
                            ((thing, 5), (load,)), [[load], (thing,)]):
                with self.assertRaises(BadDeed) as caught:
                    quickest(program, clients)
                self.assertIs(caught.exception.deed, thing)

    def test_which_error_goes_ahead(self):
        program = library(Q)
        for eye in NO_EYES:
            with self.assertRaises(BadEye) as caught:
                quickest(program, [[None]], eye=eye, most=1)
            self.assertIs(caught.exception.eye, eye)
        self.assertRaises(BadDeed, quickest, program, [[('load', 'a')], [None]], most=1)
        self.assertRaises(TooMany, quickest, program, [[('load', 'a')]], most=1)

    def test_what_is_passed_stays(self):
        clients = [[['load', 'a']], []]
        quickest(library(Q), clients)
        self.assertEqual(clients, [[['load', 'a']], []])


class TestErrors(unittest.TestCase):

    def test_bad_eye(self):
        for ask in ask_all(library(Q)):
            for eye in NO_EYES:
                with self.assertRaises(BadEye) as caught:
                    ask(eye=eye, most=1)
                self.assertIs(caught.exception.eye, eye)

    def test_too_many_by_the_states_of_any_late_set(self):
        # Early there are three states: none, b, and both. Late there are two more, with a promise.
        for ask in ask_all(library(P)):
            for eye in EYES:
                for table in (True, False):
                    ask(eye=eye, table=table, most=5)
                    with self.assertRaises(TooMany) as caught:
                        ask(eye=eye, table=table, most=4)
                    self.assertEqual(caught.exception.most, 4)

    def test_too_many_by_a_state_that_only_a_noticed_set_leads_to(self):
        program = library(LADDER)
        deeds = brute.deeds_of([program], False)
        count = max(brute.state_count(brute.maker(program, places), deeds) for places in brute.all_sets(program))
        for ask in ask_all(program):
            ask(most=count)
            self.assertRaises(TooMany, ask, most=count - 1)


class TestStillLibraries(unittest.TestCase):

    def test_all_late_sets_are_hidden(self):
        # [32]: load, put and make rows alone, but in the blocks of make rows.
        chance = random.Random(32)
        found = 0
        for _ in range(120):
            program = Program(still_library(chance))
            for eye in EYES:
                try:
                    told = hidden(program, eye=eye, most=60)
                except TooMany:
                    continue
                self.assertEqual(told, brute.all_sets(program))
                found += len(told) > 4
        self.assertGreater(found, 60)

    def test_not_so_with_the_table(self):
        program = library('module a\n  load b b\nmodule b\n  nothing\n')
        self.assertEqual(hidden(program), [[], [FIRST]])
        self.assertEqual(hidden(program, table=True), [[]])

    def test_not_so_with_other_rows(self):
        for row in ('seen s b', 'pick p b k', 'say 1\n  load c zz', 'load c zz', 'load b b\n  make f\n    seen s b'):
            program = library('module a\n  load b b\n  %s\nmodule b\n  load c a\n  say 1\n  put k 1\n' % row)
            self.assertNotEqual(hidden(program), brute.all_sets(program))


if __name__ == '__main__':
    unittest.main()
