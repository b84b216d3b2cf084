"""[11] to [15]: what each kind of row does and which faults it brings, without late places."""

import unittest

from tests.helpers import early, fault, function, module, told

A = module('a')


class TestNames(unittest.TestCase):

    def test_load_gets_the_module_and_names_it(self):
        world = early('''
            module a
              say 1
              load x b
              tell x
            module b
              say 2
        ''')
        self.assertEqual(world.load('a'), told(A, 1, 2, module('b')))
        self.assertEqual(world.look('a', 'x'), told(module('b')))
        self.assertEqual(world.table(), ['a', 'b'])

    def test_load_of_an_absent_module(self):
        world = early('''
            module a
              say 1
              load x zz
              say 2
        ''')
        self.assertEqual(world.load('a'), fault('absent', 'zz', events=(1,)))
        self.assertEqual(world.state(), ((), ((),)))

    def test_pick_gets_the_module_and_finds_the_part(self):
        world = early('''
            module a
              pick x b y
              tell x
            module b
              say 2
              put y 7
        ''')
        self.assertEqual(world.load('a'), told(A, 2, 7))
        self.assertEqual(world.state(), (('a', 'b'), ((('x', 7),), (('y', 7),))))

    def test_pick_faults(self):
        world = early('''
            module a
              pick x zz y
            module b
              say 1
              pick x a y
            module c
              pick x d y
            module d
              say 3
              put x 1
        ''')
        self.assertEqual(world.load('a'), fault('absent', 'zz'))
        self.assertEqual(world.load('b'), fault('absent', 'zz', events=(1,)))
        # The module that was got stays in the table, though the part is not found.
        self.assertEqual(world.load('c'), fault('part', 'd', 'y', events=(3,)))
        self.assertEqual(world.table(), ['d'])

    def test_put_and_copy(self):
        world = early('''
            module a
              put x -3
              copy y x
              put x 4
              load z a
              copy w z
              copy w w
              copy v nope
              say 9
        ''')
        self.assertEqual(world.load('a'), fault('name', 'nope'))
        self.assertEqual(world.state(), ((), ((('w', A), ('x', 4), ('y', -3), ('z', A)),)))

    def test_part(self):
        world = early('''
            module a
              load m b
              part x m y
              tell x
              part m m y
              tell m
            module b
              put y 5
        ''')
        self.assertEqual(world.load('a'), told(A, 5, 5))

    def test_part_faults(self):
        text = '''
            module a
              put n 1
              load m b
              make f
                nothing
              try
                %s
              else
                say 0
              %s
            module b
              put y 5
        '''
        for row, parts in [('part x nope y', ('name', 'nope')), ('part x n y', ('kind', 'n')),
                           ('part x f y', ('kind', 'f')), ('part x m z', ('part', 'b', 'z'))]:
            self.assertEqual(early(text % (row, row)).load('a'), fault(*parts, events=(0,)))

    def test_part_does_not_get_the_module(self):
        world = early('''
            module a
              load m b
              try
                load n c
              else
                part x m y
                tell x
            module b
              put y 5
              make f
                fail 1
            module c
              load d d
              fail 2
            module d
              nothing
        ''')
        self.assertEqual(world.load('a'), told(A, 5))
        self.assertEqual(world.ran(), ['a', 'b', 'c', 'd'])

    def test_part_of_a_module_that_is_not_in_the_table(self):
        world = early('''
            module a
              say 1
              put y 5
              load c c
              fail 2
            module c
              load m a
        ''')
        self.assertEqual(world.load('a'), fault('fail', 2, events=(1,)))
        self.assertEqual(world.table(), ['c'])
        self.assertEqual(world.look('c', 'm'), told(A))
        again = early('''
            module a
              say 1
              put y 5
              load c c
              fail 2
            module c
              load m a
              make f
                part x m y
                tell x
                part x m z
        ''')
        again.load('a')
        self.assertEqual(again.call('c', 'f'), fault('part', 'a', 'z', events=(5,)))
        self.assertEqual((again.table(), again.ran()), (['c'], ['a', 'c']))

    def test_drop(self):
        world = early('''
            module a
              put x 1
              drop x
              try
                tell x
              else
                say 2
              drop x
        ''')
        self.assertEqual(world.load('a'), fault('name', 'x', events=(2,)))
        self.assertEqual(world.state(), ((), ((),)))

    def test_say_and_tell(self):
        world = early('''
            module a
              say 0
              say 0
              say -999
              load m a
              tell m
              make f
                nothing
              tell f
              put x 3
              tell x
              tell nope
        ''')
        self.assertEqual(world.load('a'), fault('name', 'nope', events=(
            0, 0, -999, A, function('a', 5), 3)))

    def test_seen(self):
        world = early('''
            module a
              seen x a
              tell x
              seen x b
              tell x
              load b b
              seen x b
              tell x
              seen x zz
              tell x
              try
                load c c
              else
                nothing
              seen x c
              tell x
            module b
              seen x a
              tell x
            module c
              seen x c
              tell x
              fail 1
        ''')
        self.assertEqual(world.load('a'), told(A, 1, 0, 1, 1, 0, 1, 0))

    def test_fail(self):
        world = early('''
            module a
              put x 1
              fail -7
              put x 2
        ''')
        self.assertEqual(world.load('a'), fault('fail', -7))
        self.assertEqual(world.state(), ((), ((('x', 1),),)))

    def test_rows_put_over_what_the_name_was(self):
        rows = {'load x b': module('b'), 'pick x b y': 5, 'put x 2': 2, 'copy x n': 1,
                'part x m y': 5, 'seen x a': 1}
        for row, value in rows.items():
            for before in ('put x 9', 'load x a', 'seen x b'):
                world = early('''
                    module a
                      put n 1
                      load m b
                      %s
                      %s
                    module b
                      put y 5
                ''' % (before, row))
                world.load('a')
                self.assertEqual(world.look('a', 'x'), told(value))

    def test_names_belong_to_their_module(self):
        world = early('''
            module a
              put x 1
              load b b
              tell x
              pick y b x
              tell y
            module b
              put x 2
              drop x
              put x 3
        ''')
        self.assertEqual(world.load('a'), told(A, 1, 3))


class TestFunctions(unittest.TestCase):

    def test_make_does_not_run_and_call_does(self):
        world = early('''
            module a
              make f
                say 1
                put x 5
              say 2
              call f
              tell x
        ''')
        self.assertEqual(world.load('a'), told(A, 2, 1, 5))

    def test_the_path_of_a_function(self):
        world = early('''
            module a
              when z
                nothing
              else
                nothing
            module b
              put n 0
              when n
                say 1
              else
                say 2
                try
                  make f
                    say 3
                else
                  nothing
              copy g f
              drop f
              call g
              tell g
        ''')
        shown = function('b', 1, 1, 1, 0, 0)
        self.assertEqual(world.load('b'), told(module('b'), 2, 3, shown))
        self.assertEqual(world.load('a'), fault('name', 'z'))

    def test_a_function_runs_for_its_home(self):
        world = early('''
            module a
              put x 1
              pick g b f
              call g
              tell x
              try
                tell y
              else
                say 0
            module b
              put x 2
              make f
                tell x
                put y 8
                put x 9
        ''')
        self.assertEqual(world.load('a'), told(A, 2, 1, 0))
        self.assertEqual(world.look('b', 'y'), told(8))
        self.assertEqual(world.look('b', 'x'), told(9))

    def test_a_function_whose_home_is_not_in_the_table(self):
        world = early('''
            module a
              put x 1
              make f
                tell x
                put x 2
                fail 3
              load b b
              call f
            module b
              pick f a f
              make g
                pick f a f
        ''')
        self.assertEqual(world.load('a'), fault('fail', 3, events=(1,)))
        self.assertEqual(world.table(), ['b'])
        self.assertEqual(world.call('b', 'f'), fault('fail', 3, events=(2,)))
        self.assertEqual((world.table(), world.ran()), (['b'], ['a', 'b']))
        self.assertEqual(world.state()[1][0],
                         (('b', module('b')), ('f', function('a', 1)), ('x', 2)))

    def test_call_faults(self):
        text = '''
            module a
              put n 1
              load m a
              make f
                say 1
                drop nope
              try
                %s
              else
                say 0
              %s
        '''
        for row, parts in [('call nope', ('name', 'nope')), ('call n', ('kind', 'n')),
                           ('call m', ('kind', 'm'))]:
            self.assertEqual(early(text % (row, row)).load('a'), fault(*parts, events=(0,)))
        self.assertEqual(early(text % ('call f', 'call f')).load('a'),
                         fault('name', 'nope', events=(1, 0, 1)))

    def test_an_empty_function(self):
        world = early('''
            module a
              make f
                nothing
              call f
              say 1
        ''')
        self.assertEqual(world.load('a'), told(A, 1))
        self.assertEqual(world.begun(), 3)

    def test_a_function_made_anew_is_the_one_of_its_row(self):
        world = early('''
            module a
              make f
                say 1
              make g
                say 2
              copy f g
              call f
              tell f
        ''')
        self.assertEqual(world.load('a'), told(A, 2, function('a', 1)))


class TestBlocks(unittest.TestCase):

    def test_when(self):
        for number, event in [(0, 2), (1, 1), (-1, 1), (999, 1)]:
            world = early('''
                module a
                  put n %d
                  when n
                    say 1
                  else
                    say 2
                  say 3
            ''' % number)
            self.assertEqual(world.load('a'), told(A, event, 3))

    def test_when_faults(self):
        text = '''
            module a
              load m a
              make f
                nothing
              when %s
                say 1
              else
                say 2
        '''
        self.assertEqual(early(text % 'nope').load('a'), fault('name', 'nope'))
        self.assertEqual(early(text % 'm').load('a'), fault('kind', 'm'))
        self.assertEqual(early(text % 'f').load('a'), fault('kind', 'f'))

    def test_a_fault_leaves_when(self):
        world = early('''
            module a
              seen n a
              when n
                fail 1
                say 1
              else
                nothing
              say 2
        ''')
        self.assertEqual(world.load('a'), fault('fail', 1))

    def test_try_without_a_fault(self):
        world = early('''
            module a
              try
                say 1
              else
                say 2
              try
                nothing
              else
                say 3
        ''')
        self.assertEqual(world.load('a'), told(A, 1))

    def test_try_behind_a_fault(self):
        world = early('''
            module a
              try
                say 1
                put x 1
                fail 5
                say 2
              else
                say 3
                tell x
              say 4
        ''')
        self.assertEqual(world.load('a'), told(A, 1, 3, 1, 4))

    def test_a_fault_in_the_other_block_goes_on(self):
        world = early('''
            module a
              try
                try
                  fail 1
                else
                  say 1
                  fail 2
                  say 2
              else
                say 3
                fail 3
        ''')
        self.assertEqual(world.load('a'), fault('fail', 3, events=(1, 3)))

    def test_try_ends_the_inmost_fault_alone(self):
        world = early('''
            module a
              try
                try
                  fail 1
                else
                  nothing
                say 1
              else
                say 2
        ''')
        self.assertEqual(world.load('a'), told(A, 1))

    def test_a_fault_leaves_a_function_up_to_try(self):
        world = early('''
            module a
              make f
                seen n a
                when n
                  fail 1
                else
                  nothing
                say 1
              try
                call f
                say 2
              else
                say 3
        ''')
        self.assertEqual(world.load('a'), told(A, 3))

    def test_try_within_a_function(self):
        world = early('''
            module a
              make f
                try
                  fail 1
                else
                  say 1
                say 2
        ''')
        self.assertEqual(world.call('a', 'f'), told(None, 1, 2))


class TestGetting(unittest.TestCase):

    def test_a_module_is_run_once(self):
        world = early('''
            module a
              load x b
              load y b
              pick z b v
            module b
              say 1
              put v 2
        ''')
        self.assertEqual(world.load('a'), told(A, 1))
        self.assertEqual(world.load('a'), told(A))
        self.assertEqual(world.load('b'), told(module('b')))
        self.assertEqual(world.ran(), ['a', 'b'])

    def test_a_module_that_is_got_while_its_rows_are_run(self):
        world = early('''
            module a
              put x 1
              load b b
              put y 2
            module b
              load a a
              pick x a x
              tell x
              try
                pick y a y
              else
                say 0
        ''')
        self.assertEqual(world.load('a'), told(A, 1, 0))
        self.assertEqual(world.ran(), ['a', 'b'])

    def test_a_module_that_gets_itself(self):
        world = early('''
            module a
              load me a
              put x 1
              pick y a x
              tell y
              part z me y
              tell z
        ''')
        self.assertEqual(world.load('a'), told(A, 1, 1))
        self.assertEqual(world.ran(), ['a'])

    def test_a_module_that_fails_is_got_again_without_its_names(self):
        world = early('''
            module a
              try
                tell x
              else
                say 0
              put x 1
              fail 2
        ''')
        self.assertEqual(world.load('a'), fault('fail', 2, events=(0,)))
        self.assertEqual(world.state(), ((), ((('x', 1),),)))
        self.assertEqual(world.load('a'), fault('fail', 2, events=(0,)))
        self.assertEqual((world.table(), world.ran()), ([], ['a', 'a']))

    def test_a_module_that_fails_at_first_and_then_does_not(self):
        world = early('''
            module a
              say 1
              pick x b flag
              put y 3
            module b
              make set
                put flag 1
        ''')
        self.assertEqual(world.load('a'), fault('part', 'b', 'flag', events=(1,)))
        self.assertEqual(world.table(), ['b'])
        self.assertEqual(world.call('b', 'set'), told(None))
        self.assertEqual(world.load('a'), told(A, 1))
        self.assertEqual((world.table(), world.ran()), (['a', 'b'], ['a', 'b', 'a']))

    def test_it_is_out_of_the_table_before_the_other_block_of_try(self):
        world = early('''
            module a
              try
                load b b
              else
                seen s b
                tell s
                load b b
            module b
              say 7
              put x 1
              fail 3
        ''')
        self.assertEqual(world.load('a'), fault('fail', 3, events=(7, 0, 7)))
        self.assertEqual((world.table(), world.ran()), ([], ['a', 'b', 'b']))

    def test_a_fault_takes_all_modules_out_that_it_leaves(self):
        world = early('''
            module a
              load b b
            module b
              load d d
              load c c
            module c
              put x 1
              drop nope
            module d
              nothing
        ''')
        self.assertEqual(world.load('a'), fault('name', 'nope'))
        self.assertEqual(world.state(),
                         (('d',), ((), (('d', module('d')),), (('x', 1),), ())))
        self.assertEqual(world.ran(), ['a', 'b', 'd', 'c'])

    def test_a_fault_within_a_module_that_tries_keeps_it_in_the_table(self):
        world = early('''
            module a
              try
                fail 1
              else
                nothing
        ''')
        self.assertEqual(world.load('a'), told(A))
        self.assertEqual(world.table(), ['a'])

    def test_a_module_that_failed_within_its_ring_is_run_within_it_again(self):
        # b fails behind c, which keeps what it found; then b is got anew.
        world = early('''
            module a
              try
                load b b
              else
                load c c
                pick x c b
                tell x
            module b
              put v 1
              load c c
              fail 1
            module c
              load b b
              say 4
        ''')
        self.assertEqual(world.load('a'), told(A, 4, module('b')))
        self.assertEqual((world.table(), world.ran()), (['a', 'c'], ['a', 'b', 'c']))
        self.assertEqual(world.look('b', 'v'), fault('fail', 1))
        self.assertEqual(world.ran(), ['a', 'b', 'c', 'b'])

    def test_the_name_is_put_into_the_new_names_of_a_home_that_was_run_anew(self):
        # f of a is run while a is not in the table; its load row runs a anew.
        world = early('''
            module a
              seen s c
              when s
                put x 2
              else
                make f
                  put y 1
                  load z b
                load c c
                fail 1
            module b
              load a a
              say 5
            module c
              pick f a f
        ''')
        self.assertEqual(world.load('a'), fault('fail', 1))
        self.assertEqual(world.call('c', 'f'), told(None, 5))
        self.assertEqual(world.state()[1][0], (('s', 1), ('x', 2), ('z', module('b'))))


if __name__ == '__main__':
    unittest.main()
