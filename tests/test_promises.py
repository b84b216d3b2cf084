"""[11] to [15], [36]: late places, promises made, kept, failing, put over, and rings of touches."""

import unittest

from tests.helpers import all_late, early, fault, function, late, module, told

A = module('a')
B = module('b')


def names_of(world, word):
    """The names of a module, as its world's state tells them."""
    return dict(world.state()[1][world.program.modules().index(word)])


class TestMaking(unittest.TestCase):

    TEXT = '''
        module a
          load x b
          say 1
          pick y b v
          say 2
        module b
          say 7
          put v 5
    '''

    def test_a_late_row_makes_a_promise_and_nothing_else(self):
        world = all_late(self.TEXT)
        self.assertEqual(world.load('a'), told(A, 1, 2))
        self.assertEqual(world.state(),
                         (('a',), ((('x', ('promise', 'b')), ('y', ('promise', 'b', 'v'))), ())))
        self.assertEqual((world.ran(), world.begun()), (['a'], 4))

    def test_the_late_places_alone(self):
        world = late(self.TEXT, ('a', (0,)))
        self.assertEqual(world.load('a'), told(A, 1, 7, 2))
        self.assertEqual(names_of(world, 'a'), {'x': ('promise', 'b'), 'y': 5})
        world = late(self.TEXT, ('a', (2,)))
        self.assertEqual(world.load('a'), told(A, 7, 1, 2))
        self.assertEqual(names_of(world, 'a'), {'x': B, 'y': ('promise', 'b', 'v')})

    def test_late_places_in_blocks_and_functions(self):
        text = '''
            module a
              make f
                try
                  load x b
                else
                  nothing
                say 1
              load x b
            module b
              say 7
        '''
        inner = ('a', (0, 0, 0, 0, 0))
        world = late(text, inner)
        self.assertEqual(world.load('a'), told(A, 7))
        self.assertEqual(world.call('a', 'f'), told(None, 1))
        self.assertEqual(names_of(world, 'a')['x'], ('promise', 'b'))
        world = late(text, ('a', (1,)))
        self.assertEqual(world.call('a', 'f'), told(None, 7, 1))
        self.assertEqual(names_of(world, 'a')['x'], B)

    def test_a_promise_of_what_is_in_the_table_or_absent_is_made_likewise(self):
        world = all_late('''
            module a
              load x a
              load y zz
              pick z zz v
              pick w a nope
        ''')
        self.assertEqual(world.load('a'), told(A))
        self.assertEqual(names_of(world, 'a'), {
            'x': ('promise', 'a'), 'y': ('promise', 'zz'), 'z': ('promise', 'zz', 'v'),
            'w': ('promise', 'a', 'nope')})
        self.assertEqual(world.look('a', 'x'), told(A))
        self.assertEqual(world.look('a', 'y'), fault('absent', 'zz'))
        self.assertEqual(world.look('a', 'z'), fault('absent', 'zz'))
        self.assertEqual(world.look('a', 'w'), fault('part', 'a', 'nope'))
        self.assertEqual(names_of(world, 'a')['x'], A)
        self.assertEqual(names_of(world, 'a')['w'], ('promise', 'a', 'nope'))

    def test_a_promise_is_put_over_whatever_it_was(self):
        for before in ('put x 1', 'load x a', 'pick x a y'):
            world = all_late('''
                module a
                  %s
                  load x b
                module b
                  say 7
            ''' % before)
            self.assertEqual(world.load('a'), told(A))
            self.assertEqual(names_of(world, 'a'), {'x': ('promise', 'b')})


class TestTouching(unittest.TestCase):

    def test_rows_that_touch_a_name_of_their_home(self):
        text = '''
            module a
              load x b
              pick n b n
              pick f b f
              say 1
              %s
            module b
              say 7
              put n 0
              make f
                say 8
        '''
        block = '\n                say 2\n              else\n                say 3'
        for row, events, name, value in [
                ('copy y x', (1, 7), 'x', B),
                ('part y x n', (1, 7), 'x', B),
                ('tell x', (1, 7, B), 'x', B),
                ('tell n', (1, 7, 0), 'n', 0),
                ('call f', (1, 7, 8), 'f', function('b', 2)),
                ('when n' + block, (1, 7, 3), 'n', 0)]:
            world = all_late(text % row)
            self.assertEqual(world.load('a'), told(A, *events))
            self.assertEqual(names_of(world, 'a')[name], value)
            self.assertEqual(world.ran(), ['a', 'b'])

    def test_rows_that_touch_no_name_of_their_home(self):
        text = '''
            module a
              load x b
              say 1
              %s
            module b
              say 7
              put v 0
        '''
        for row, events, names in [
                ('load x a', (1,), {'x': ('promise', 'a')}),
                ('pick x a v', (1,), {'x': ('promise', 'a', 'v')}),
                ('put x 3', (1,), {'x': 3}),
                ('seen x b', (1,), {'x': 0}),
                ('make x\n                tell x', (1,), {'x': function('a', 2)}),
                ('drop x', (1,), {}),
                ('say 3', (1, 3), {'x': ('promise', 'b')})]:
            world = all_late(text % row)
            self.assertEqual(world.load('a'), told(A, *events))
            self.assertEqual(names_of(world, 'a'), names)
            self.assertEqual(world.ran(), ['a'])

    def test_copy_and_part_put_over_a_promise_without_touching_it(self):
        world = late('''
            module a
              put n 1
              load x b
              copy x n
              load m c
              load y b
              part y m v
            module b
              say 7
            module c
              put v 5
        ''', ('a', (1,)), ('a', (4,)))
        self.assertEqual(world.load('a'), told(A))
        self.assertEqual(names_of(world, 'a'), {'n': 1, 'x': 1, 'm': module('c'), 'y': 5})

    def test_early_rows_put_over_a_promise_without_touching_it(self):
        world = late('''
            module a
              load x b
              load x c
              load y b
              pick y c v
            module b
              say 7
            module c
              put v 5
        ''', ('a', (0,)), ('a', (2,)))
        self.assertEqual(world.load('a'), told(A))
        self.assertEqual(names_of(world, 'a'), {'x': module('c'), 'y': 5})

    def test_finding_a_part_touches_it_in_its_module(self):
        text = '''
            module a
              pick x b y
              say 1
            module b
              pick y c z
              say 2
            module c
              say 3
              put z 4
        '''
        world = late(text, ('b', (0,)))
        self.assertEqual(world.load('a'), told(A, 2, 3, 1))
        self.assertEqual((names_of(world, 'a'), names_of(world, 'b')), ({'x': 4}, {'y': 4}))
        world = all_late(text)
        self.assertEqual(world.load('a'), told(A, 1))
        self.assertEqual(world.look('a', 'x'), told(4, 2, 3))
        self.assertEqual((names_of(world, 'a'), names_of(world, 'b')), ({'x': 4}, {'y': 4}))
        self.assertEqual(world.look('a', 'x'), told(4))

    def test_a_promise_is_kept_once(self):
        world = all_late('''
            module a
              load x b
              tell x
              tell x
            module b
              say 7
        ''')
        self.assertEqual(world.load('a'), told(A, 7, B, B))
        self.assertEqual(world.ran(), ['a', 'b'])

    def test_the_part_of_an_owner_that_was_promised_is_touched_too(self):
        world = all_late('''
            module a
              load m b
              part x m y
            module b
              load y c
            module c
              say 3
        ''')
        self.assertEqual(world.load('a'), told(A, 3))
        self.assertEqual(names_of(world, 'a'), {'m': B, 'x': module('c')})
        self.assertEqual(names_of(world, 'b'), {'y': module('c')})

    def test_the_kind_of_what_was_promised(self):
        text = '''
            module a
              pick m b n
              load n b
              %s
            module b
              say 7
              put n 1
        '''
        block = '\n                nothing\n              else\n                nothing'
        for row, name in [('part x m y', 'm'), ('call m', 'm'), ('call n', 'n'),
                          ('when n' + block, 'n')]:
            world = all_late(text % row)
            self.assertEqual(world.load('a'), fault('kind', name, events=(7,)))
            # The promise was kept ahead of the fault.
            self.assertEqual(names_of(world, 'a')[name], {'m': 1, 'n': B}[name])


class TestFailing(unittest.TestCase):

    def test_the_fault_comes_at_the_row_that_touches(self):
        world = all_late('''
            module a
              load x b
              say 1
              try
                tell x
                say 2
              else
                say 3
              tell x
            module b
              say 7
              fail 5
        ''')
        self.assertEqual(world.load('a'), fault('fail', 5, events=(1, 7, 3, 7)))
        self.assertEqual(world.state(), ((), ((('x', ('promise', 'b')),), ())))
        self.assertEqual(world.ran(), ['a', 'b', 'b'])

    def test_each_fault_of_keeping_leaves_the_promise(self):
        text = '''
            module a
              load x b
              pick y b v
              pick z c v
              pick w d v
              load u zz
            module b
              fail 5
            module c
              put n 1
            module d
              pick v zz k
        '''
        for name, parts, promise, table in [
                ('x', ('fail', 5), ('promise', 'b'), ['a']),
                ('y', ('fail', 5), ('promise', 'b', 'v'), ['a']),
                ('z', ('part', 'c', 'v'), ('promise', 'c', 'v'), ['a', 'c']),
                ('w', ('absent', 'zz'), ('promise', 'd', 'v'), ['a', 'd']),
                ('u', ('absent', 'zz'), ('promise', 'zz'), ['a'])]:
            world = all_late(text)
            for _ in range(2):
                self.assertEqual(world.look('a', name), fault(*parts))
                self.assertEqual(names_of(world, 'a')[name], promise)
                self.assertEqual(world.table(), table)

    def test_a_promise_that_failed_may_be_kept_later(self):
        world = all_late('''
            module a
              pick x b flag
              make go
                load y b
                tell y
            module b
              make set
                put flag 1
        ''')
        self.assertEqual(world.look('a', 'x'), fault('part', 'b', 'flag'))
        self.assertEqual(world.call('b', 'set'), told(None))
        self.assertEqual(world.look('a', 'x'), told(1))
        self.assertEqual(world.call('a', 'go'), told(None, B))

    def test_example_36(self):
        text = '''
            module a
              pick x b y
              put z 1
            module b
              pick w a z
              put y 2
        '''
        self.assertEqual(early(text).load('a'), fault('part', 'a', 'z'))
        world = late(text, ('a', (0,)))
        self.assertEqual(world.load('a'), told(A))
        self.assertEqual(world.look('a', 'x'), told(2))


class TestPutOver(unittest.TestCase):
    """The name changes while its promise is kept: what was promised is found all the same."""

    def kept(self, rows, places=(('a', (0,)),)):
        return late('''
            module a
              load x b
              make f
                %s
              tell x
              say 1
            module b
              pick g a f
              call g
              say 7
              put v 4
        ''' % rows.replace('\n', '\n                '), *places)

    def test_a_value_stays(self):
        world = self.kept('put x 3')
        self.assertEqual(world.load('a'), told(A, 7, B, 1))
        self.assertEqual(world.look('a', 'x'), told(3))

    def test_a_dropped_name_stays_away(self):
        world = self.kept('drop x')
        self.assertEqual(world.load('a'), told(A, 7, B, 1))
        self.assertEqual(world.look('a', 'x'), fault('part', 'a', 'x'))

    def test_another_promise_stays(self):
        for row, promise in [('load x a', ('promise', 'a')), ('pick x b v', ('promise', 'b', 'v')),
                             ('pick x a x', ('promise', 'a', 'x'))]:
            world = self.kept(row, [('a', (0,)), ('a', (1, 0, 0))])
            self.assertEqual(world.load('a'), told(A, 7, B, 1))
            self.assertEqual(names_of(world, 'a')['x'], promise)

    def test_another_promise_that_stays_may_be_kept_next(self):
        for row, value in [('load x a', A), ('pick x b v', 4)]:
            world = self.kept(row, [('a', (0,)), ('a', (1, 0, 0))])
            world.load('a')
            self.assertEqual(world.look('a', 'x'), told(value))
            self.assertEqual(names_of(world, 'a')['x'], value)

    def test_the_same_promise_anew_is_replaced(self):
        world = self.kept('put x 3\ndrop x\nload x b', [('a', (0,)), ('a', (1, 0, 2))])
        self.assertEqual(world.load('a'), told(A, 7, B, 1))
        self.assertEqual(names_of(world, 'a')['x'], B)

    def test_the_same_promise_of_a_part_anew_is_replaced(self):
        world = late('''
            module a
              pick x b v
              make f
                put x 3
                pick x b v
              tell x
            module b
              pick g a f
              call g
              put v 4
        ''', ('a', (0,)), ('a', (1, 0, 1)))
        self.assertEqual(world.load('a'), told(A, 4))
        self.assertEqual(names_of(world, 'a')['x'], 4)

    def test_a_fault_leaves_the_name_as_it_is_by_then(self):
        text = '''
            module a
              load x b
              make f
                %s
              try
                tell x
              else
                say 1
            module b
              pick g a f
              call g
              fail 7
        '''
        for row, value in [('put x 3', 3), ('load x a', A), ('drop y', ('promise', 'b'))]:
            world = late(text % row, ('a', (0,)))
            self.assertEqual(world.load('a'), told(A, 1))
            self.assertEqual(names_of(world, 'a')['x'], value)

    def test_a_value_that_came_meanwhile_is_no_ring(self):
        world = self.kept('put x 3\ntell x')
        self.assertEqual(world.load('a'), told(A, 3, 7, B, 1))
        self.assertEqual(names_of(world, 'a')['x'], 3)

    def test_a_home_that_is_run_anew_while_a_promise_of_it_is_kept(self):
        # a has failed; f touches x of a, and b, which x promises, gets a anew.
        text = '''
            module a
              load x b
              make f
                tell x
              seen s c
              when s
                put n 1
              else
                load c c
                fail 1
            module b
              load a a
              %s
            module c
              pick f a f
        '''
        world = late(text % 'say 7', ('a', (0,)))
        self.assertEqual(world.load('a'), fault('fail', 1))
        self.assertEqual(names_of(world, 'a')['x'], ('promise', 'b'))
        self.assertEqual(world.call('c', 'f'), told(None, 7, B))
        # The promise that a made anew is replaced, too.
        self.assertEqual(names_of(world, 'a'), {
            'x': B, 'f': function('a', 1), 's': 1, 'n': 1})
        self.assertEqual(world.ran(), ['a', 'c', 'b', 'a'])
        world = late(text % 'pick y a x', ('a', (0,)))
        world.load('a')
        self.assertEqual(world.call('c', 'f'), fault('ring', 'a', 'x'))
        self.assertEqual(names_of(world, 'a')['x'], ('promise', 'b'))
        self.assertEqual(world.table(), ['a', 'c'])


class TestRings(unittest.TestCase):

    def test_a_promise_of_itself(self):
        world = all_late('''
            module a
              pick x a x
              say 1
        ''')
        for _ in range(2):
            self.assertEqual(world.look('a', 'x')[1], ('fault', ('ring', 'a', 'x')))
        self.assertEqual(names_of(world, 'a'), {'x': ('promise', 'a', 'x')})

    def test_two_promises_of_one_another(self):
        world = all_late('''
            module a
              pick x b y
            module b
              pick y a x
        ''')
        self.assertEqual(world.look('a', 'x'), fault('ring', 'a', 'x'))
        self.assertEqual(world.look('b', 'y'), fault('ring', 'b', 'y'))
        self.assertEqual(world.state(), (
            ('a', 'b'), ((('x', ('promise', 'b', 'y')),), (('y', ('promise', 'a', 'x')),))))

    def test_a_ring_behind_its_own_beginning(self):
        world = all_late('''
            module a
              pick x b y
            module b
              pick y c z
            module c
              pick z b y
        ''')
        self.assertEqual(world.look('a', 'x'), fault('ring', 'b', 'y'))
        self.assertEqual(world.look('c', 'z'), fault('ring', 'c', 'z'))

    def test_a_ring_by_a_row_of_the_module_that_is_got(self):
        world = late('''
            module a
              load x b
              say 1
            module b
              say 2
              pick y a x
              say 3
        ''', ('a', (0,)))
        self.assertEqual(world.look('a', 'x'), fault('ring', 'a', 'x', events=(1, 2)))
        self.assertEqual(world.table(), ['a'])
        # Begun by b, it is none: b is in the table by then.
        self.assertEqual(world.load('b'), told(B, 2, 3))
        self.assertEqual((names_of(world, 'a'), names_of(world, 'b')), ({'x': B}, {'y': B}))

    def test_a_ring_that_is_tried(self):
        world = late('''
            module a
              load x b
              tell x
            module b
              try
                pick y a x
              else
                say 2
        ''', ('a', (0,)))
        self.assertEqual(world.load('a'), told(A, 2, B))
        # Behind the ring that was tried the keeping went on, and has ended.
        self.assertEqual(world.look('a', 'x'), told(B))

    def test_a_keeping_that_failed_has_ended(self):
        world = late('''
            module a
              load x b
              try
                tell x
              else
                say 1
              try
                tell x
              else
                say 2
            module b
              say 7
              fail 5
        ''', ('a', (0,)))
        self.assertEqual(world.load('a'), told(A, 7, 1, 7, 2))
        self.assertEqual(world.look('a', 'x'), fault('fail', 5, events=(7,)))

    def test_whatever_promise_the_name_has_now(self):
        world = late('''
            module a
              load x b
              make f
                load x c
                try
                  tell x
                else
                  say 2
              tell x
            module b
              pick g a f
              call g
              pick h a x
            module c
              say 3
        ''', ('a', (0,)), ('a', (1, 0, 0)))
        self.assertEqual(world.load('a'), fault('ring', 'a', 'x', events=(2,)))
        self.assertEqual(names_of(world, 'a')['x'], ('promise', 'c'))
        self.assertNotIn('c', world.ran())

    def test_the_same_name_of_another_module_is_no_ring(self):
        world = all_late('''
            module a
              pick x b x
            module b
              pick x c x
            module c
              put x 6
        ''')
        self.assertEqual(world.look('a', 'x'), told(6))

    def test_another_name_of_the_same_module_is_no_ring(self):
        world = all_late('''
            module a
              pick x a y
              pick y b z
            module b
              put z 6
        ''')
        self.assertEqual(world.look('a', 'x'), told(6))
        self.assertEqual(names_of(world, 'a'), {'x': 6, 'y': 6})


class TestExamples(unittest.TestCase):

    def test_34(self):
        text = '''
            module a
              load b b
              put x 1
            module b
              say 5
        '''
        self.assertEqual(early(text).do(('call', 'a', 'x')), fault('kind', 'x', events=(5,)))
        self.assertEqual(all_late(text).do(('call', 'a', 'x')), fault('kind', 'x'))
        for world in (early(text), all_late(text)):
            self.assertEqual(world.do(('call', 'a', 'b')), fault('kind', 'b', events=(5,)))
        self.assertEqual(early(text).load('a'), told(A, 5))
        self.assertEqual(all_late(text).load('a'), told(A))

    def test_35(self):
        text = '''
            module a
              load b b
              load c c
              copy x b
              copy y c
            module b
              say 1
            module c
              say 2
        '''
        first, second = ('a', (0,)), ('a', (1,))
        for places, events in [((), (1, 2)), ((first,), (2, 1)), ((second,), (1, 2)),
                               ((first, second), (1, 2))]:
            world = late(text, *places)
            self.assertEqual(world.load('a'), told(A, *events))
            self.assertEqual(world.table(), ['a', 'b', 'c'])
            self.assertEqual(names_of(world, 'a'),
                             {'b': B, 'c': module('c'), 'x': B, 'y': module('c')})


if __name__ == '__main__':
    unittest.main()
