"""[3], [5] to [9]: libraries that are taken and refused, and what they tell."""

import copy
import unittest

from firsttouch.errors import BadProgram, BadWord
from firsttouch.programs import Program
from tests.helpers import NO_WORDS, library

# One row of each kind that is taken, with the kinds of its things.
KINDS = {
    'load': ('word', 'word'),
    'pick': ('word', 'word', 'word'),
    'put': ('word', 'number'),
    'copy': ('word', 'word'),
    'part': ('word', 'word', 'word'),
    'drop': ('word',),
    'say': ('number',),
    'tell': ('word',),
    'seen': ('word', 'word'),
    'fail': ('number',),
    'make': ('word', 'block'),
    'call': ('word',),
    'when': ('word', 'block', 'block'),
    'try': ('block', 'block'),
}
GOOD = {'word': 'abcdefgh', 'number': -999, 'block': [('say', 1)]}
WRONG = {
    'word': NO_WORDS,
    'number': [None, True, False, '1', '', (), [], {}, [1], (1,)],
    'block': [None, True, 0, 5, '', 'say', {}, {'say': 1}],
}


def good_row(word):
    return (word, *[GOOD[kind] for kind in KINDS[word]])


def wrong_rows(word):
    """Rows with this word in which one thing is not what is told, or that have too few or many."""
    row = good_row(word)
    found = [row[:-1], row + ('x',), row + (1,), row + ([],)]
    for at, kind in enumerate(KINDS[word]):
        for thing in WRONG[kind]:
            found.append(row[:at + 1] + (thing,) + row[at + 2:])
    return found


def listed(thing):
    """The same with lists for tuples, at every depth."""
    return [listed(part) for part in thing] if isinstance(thing, (list, tuple)) else thing


def tupled(thing):
    return tuple(tupled(part) for part in thing) if isinstance(thing, (list, tuple)) else thing


class Refusing(unittest.TestCase):

    def refused(self, modules, module, path):
        with self.assertRaises(BadProgram) as caught:
            Program(modules)
        self.assertEqual((caught.exception.module, caught.exception.path), (module, path))
        self.assertIs(type(caught.exception.path), tuple)


class TestTaking(Refusing):

    def test_each_kind_of_row_is_taken(self):
        for word in KINDS:
            program = Program({'a': [good_row(word)]})
            self.assertEqual(program.rows('a'), [tupled(good_row(word))])

    def test_the_tests_know_all_kinds(self):
        self.assertEqual(len(KINDS), 14)

    def test_lists_stand_for_tuples_and_the_other_way_about(self):
        rows = [good_row(word) for word in KINDS]
        for given in (listed(rows), tupled(rows)):
            program = Program(modules={'a': given})
            self.assertEqual(program.rows('a'), [tupled(row) for row in rows])

    def test_words_and_numbers_at_their_edges(self):
        program = Program({'z': [], 'abcdefgh': [('put', 'a', 0), ('say', 999), ('say', -999)]})
        self.assertEqual(program.modules(), ['abcdefgh', 'z'])
        self.assertEqual(Program({'a': [('say', 100000)]}).rows('a'), [('say', 100000)])

    def test_names_may_be_words_of_rows_and_other_modules_may_be_absent(self):
        program = Program({'load': [('load', 'load', 'zz'), ('try', [], [])]})
        self.assertEqual(program.rows('load'), [('load', 'load', 'zz'), ('try', (), ())])

    def test_make_and_call_stand_in_when_and_try(self):
        rows = [('when', 'x', [('make', 'f', [])], [('call', 'f')]),
                ('try', [('call', 'f')], [('try', [('make', 'f', [])], [])])]
        self.assertEqual(Program({'a': rows}).rows('a'), [tupled(row) for row in rows])

    def test_a_large_library(self):
        rows = [('try', [('try', [('try', [('say', 1)], [('say', 2)])], [])], [])]
        modules = {word: rows + [('say', k) for k in range(2)] for word in ('a', 'b', 'c', 'd')}
        program = Program(modules)
        self.assertEqual(program.rows('d')[0][1][0][1][0], ('try', (('say', 1),), (('say', 2),)))

    def test_equal_only_if_the_same(self):
        one = Program({'a': []})
        self.assertEqual(one, one)
        self.assertNotEqual(one, Program({'a': []}))


class TestRefusing(Refusing):

    def test_no_dict_no_key_no_word(self):
        for modules in (None, True, 5, 'a', [], (), [('a', [])], {}):
            self.refused(modules, None, ())
        for key in (None, True, 0, '', 'A', 'abcdefghi', 'a b', 'a1', (), ('a',)):
            self.refused({key: []}, None, ())
            self.refused({'a': 5, key: [], 'b': [5]}, None, ())

    def test_no_list_of_rows(self):
        for rows in (None, True, 0, 'say', {}, {'say': 1}):
            self.refused({'a': rows}, 'a', ())
            self.refused({'b': rows, 'a': []}, 'b', ())

    def test_the_first_module_ascending(self):
        self.refused({'c': None, 'b': [5], 'a': []}, 'b', (0,))
        self.refused({'c': [5], 'b': None, 'a': []}, 'b', ())
        self.refused({'ab': None, 'b': None, 'aa': [('say', 1), 1]}, 'aa', (1,))

    def test_what_is_no_row(self):
        for row in (None, True, 0, 'say', '', (), [], {}, {'say': 1}, ('nope',), ('nope', 1), (1,),
                    (None,), ('Say', 1), ('say ', 1), (['say'], 1), ({}, 1), ('else',), ('say',)):
            self.refused({'a': [('say', 1), row]}, 'a', (1,))

    def test_each_kind_of_row_with_other_things(self):
        for word in KINDS:
            for row in wrong_rows(word):
                self.refused({'a': [row]}, 'a', (0,))
                self.refused({'a': [listed(row)]}, 'a', (0,))
                self.refused({'a': [good_row(word), row]}, 'a', (1,))

    def test_each_kind_of_row_deep_in_blocks(self):
        for word in KINDS:
            for row in wrong_rows(word)[:9]:
                inner = [('say', 1), ('try', [('say', 1)], [('say', 1), ('say', 2), row])]
                self.refused({'a': [], 'b': [('when', 'x', inner, [])]}, 'b', (0, 0, 1, 1, 2))
                self.refused({'a': [], 'b': [('when', 'x', [], inner)]}, 'b', (0, 1, 1, 1, 2))
                self.refused({'a': [('make', 'f', inner)]}, 'a', (0, 0, 1, 1, 2))

    def test_a_row_is_refused_ahead_of_the_rows_in_its_blocks(self):
        self.refused({'a': [('when', 'X', [5], [])]}, 'a', (0,))
        self.refused({'a': [('when', 'x', [5], 5)]}, 'a', (0,))
        self.refused({'a': [('try', [5], [], [])]}, 'a', (0,))
        self.refused({'a': [('make', 'f', [('make', 'g', [5])])]}, 'a', (0, 0, 0))

    def test_the_first_path_ascending(self):
        self.refused({'a': [('try', [], [5]), 5]}, 'a', (0, 1, 0))
        self.refused({'a': [('try', [('say', 1), 5], [5])]}, 'a', (0, 0, 1))
        self.refused({'a': [('try', [('try', [], [5]), 5], [5]), 5]}, 'a', (0, 0, 0, 1, 0))
        self.refused({'a': [('say', k) for k in range(10)] + [5, ('try', [5], [])]}, 'a', (10,))

    def test_no_make_and_no_call_within_make(self):
        for row in (('make', 'g', []), ('call', 'f'), ['call', 'f']):
            self.refused({'a': [('make', 'f', [row])]}, 'a', (0, 0, 0))
            self.refused({'a': [('make', 'f', [('say', 1), ('try', [], [row])])]}, 'a',
                         (0, 0, 1, 1, 0))
            self.refused({'a': [('try', [('make', 'f', [('when', 'x', [('try', [row], [])], [])])],
                                 [])]}, 'a', (0, 0, 0, 0, 0, 0, 0, 0, 0))
        self.refused({'a': [('make', 'f', []), ('call', 'f'), ('make', 'g', [('call', 'f')])]}, 'a',
                     (2, 0, 0))

    def test_the_very_key_is_kept(self):
        word = ''.join(['a', 'b'])
        with self.assertRaises(BadProgram) as caught:
            Program({word: None})
        self.assertIs(caught.exception.module, word)


class TestTelling(unittest.TestCase):

    TEXT = '''
        module b
          say 1
          load lo ma
          pick pi mb pc
          put pu 1
          copy co cp
          part pa ow px
          drop dr
          tell te
          seen se mc
          fail 3
          call ca
          make fu
            load la a
            put pv 2
            tell tf
          when wh
            try
              pick pd b x
            else
              put pw 1
          else
            seen sf a
            load lo b
        module c
          put pu 1
          put aa 2
    '''

    def test_places(self):
        program = library(self.TEXT)
        places = [('b', (1,)), ('b', (2,)), ('b', (11, 0, 0)), ('b', (12, 0, 0, 0, 0)),
                  ('b', (12, 1, 1))]
        self.assertEqual(program.places(), places)
        self.assertEqual(list(program), places)
        self.assertEqual([place for place in program], places)
        self.assertEqual(library('module a\n  nothing\n').places(), [])
        self.assertEqual(list(library('module a\n  say 1\n')), [])

    def test_places_ascend_by_module_then_path(self):
        program = Program({'b': [('load', 'x', 'a')],
                           'a': [('try', [], [('load', 'x', 'a')])] + [('say', 1)] * 9
                           + [('load', 'y', 'a'), ('load', 'z', 'a')]})
        self.assertEqual(program.places(),
                         [('a', (0, 1, 0)), ('a', (10,)), ('a', (11,)), ('b', (0,))])

    def test_modules(self):
        self.assertEqual(Program({'b': [], 'ab': [], 'a': []}).modules(), ['a', 'ab', 'b'])

    def test_names(self):
        program = library(self.TEXT)
        own = ['co', 'fu', 'la', 'lo', 'pa', 'pd', 'pi', 'pu', 'pv', 'pw', 'se', 'sf']
        self.assertEqual(program.names_of('b'), own)
        self.assertEqual(program.names_of(module='c'), ['aa', 'pu'])
        self.assertEqual(program.names(), ['aa'] + own)
        empty = Program({'a': [], 'b': [('say', 1), ('drop', 'x')]})
        self.assertEqual((empty.names(), empty.names_of('a'), empty.names_of('b')), ([], [], []))

    def test_rows(self):
        rows = library(self.TEXT).rows(module='b')
        self.assertEqual(rows[11], ('make', 'fu', (('load', 'la', 'a'), ('put', 'pv', 2),
                                                   ('tell', 'tf'))))
        self.assertEqual(rows[12], (
            'when', 'wh', (('try', (('pick', 'pd', 'b', 'x'),), (('put', 'pw', 1),)),),
            (('seen', 'sf', 'a'), ('load', 'lo', 'b'))))
        self.assertEqual(len(rows), 13)
        self.assertIs(type(rows), list)
        self.assertEqual(Program({'a': ()}).rows('a'), [])

    def test_no_module_of_the_library(self):
        program = library(self.TEXT)
        for word in NO_WORDS + ['a', 'bb', 'pu', 'module']:
            for ask in (program.rows, program.names_of):
                with self.assertRaises(BadWord) as caught:
                    ask(word)
                self.assertIs(caught.exception.word, word)
                with self.assertRaises(BadWord):
                    ask(module=word)


class TestKeeping(unittest.TestCase):

    def test_what_is_passed_stays_and_may_change_later(self):
        inner = [['say', 1]]
        modules = {'b': [['try', inner, []]], 'a': [['load', 'x', 'b']]}
        before = copy.deepcopy(modules)
        program = Program(modules)
        text = program.text()
        self.assertEqual(modules, before)
        self.assertEqual(list(modules), ['b', 'a'])
        inner.append(['load', 'y', 'a'])
        modules['a'][0][1] = 'y'
        modules['b'].clear()
        modules['c'] = []
        self.assertEqual(program.text(), text)
        self.assertEqual(program.rows('b'), [('try', (('say', 1),), ())])
        self.assertEqual(program.places(), [('a', (0,))])
        self.assertEqual(program.names(), ['x'])
        self.assertEqual(program.modules(), ['a', 'b'])

    def test_what_was_returned_may_change(self):
        program = library('module a\n  load x a\n  try\n    say 1\n  else\n    nothing\n')
        for ask in (program.places, program.modules, program.names,
                    lambda: program.names_of('a'), lambda: program.rows('a')):
            answer = ask()
            kept = copy.deepcopy(answer)
            answer.append('other')
            answer[0] = 'other'
            self.assertEqual(ask(), kept)
            self.assertIsNot(ask(), ask())

    def test_what_was_returned_may_be_passed_on(self):
        program = library(TestTelling.TEXT)
        again = Program({module: program.rows(module) for module in program.modules()})
        self.assertEqual(again.text(), program.text())
        self.assertEqual(Program.read(program.text()).places(), program.places())

    def test_a_refused_library_changes_nothing(self):
        modules = {'a': [['try', [['say', 1]], [['say', True]]]], 'B': []}
        before = copy.deepcopy(modules)
        with self.assertRaises(BadProgram):
            Program(modules)
        self.assertEqual(modules, before)


if __name__ == '__main__':
    unittest.main()
