"""[10]: libraries written as texts, and texts read or refused."""

import random
import unittest

from firsttouch.errors import BadProgram, BadText
from firsttouch.programs import Program
from tests.samples import random_library

# One of each row, and each way in which blocks may stand.
ROWS = [
    ('load', 'x', 'a'), ('pick', 'x', 'a', 'y'), ('put', 'x', 1), ('copy', 'x', 'y'),
    ('part', 'x', 'y', 'z'), ('drop', 'x'), ('say', -12), ('tell', 'x'), ('seen', 'x', 'a'),
    ('fail', 0), ('make', 'f', [('say', 1), ('say', 2)]), ('make', 'g', []), ('call', 'f'),
    ('when', 'x', [('try', [], [('make', 'h', [('try', [('say', 3)], [])])])], [('say', 999)]),
    ('try', [('say', 4)], []),
]
TEXT = '''\
module a
  load x a
  pick x a y
  put x 1
  copy x y
  part x y z
  drop x
  say -12
  tell x
  seen x a
  fail 0
  make f
    say 1
    say 2
  make g
    nothing
  call f
  when x
    try
      nothing
    else
      make h
        try
          say 3
        else
          nothing
  else
    say 999
  try
    say 4
  else
    nothing
module b
  nothing
module zz
  say -999
'''


class Reading(unittest.TestCase):

    def refused(self, text, line):
        with self.assertRaises(BadText, msg=repr(text)) as caught:
            Program.read(text)
        self.assertEqual(caught.exception.line, line, repr(text))

    def taken(self, text):
        self.assertEqual(Program.read(text).text(), text)


class TestTexts(Reading):

    def test_written(self):
        program = Program({'zz': [('say', -999)], 'b': [], 'a': ROWS})
        self.assertEqual(program.text(), TEXT)

    def test_read(self):
        program = Program.read(text=TEXT)
        self.assertEqual(program.modules(), ['a', 'b', 'zz'])
        self.assertEqual(program.rows('a'), Program({'a': ROWS}).rows('a'))
        self.assertEqual(program.rows('b'), [])
        self.assertEqual(program.text(), TEXT)
        self.assertIsInstance(program, Program)

    def test_random_libraries_are_read_back(self):
        chance = random.Random(1)
        for _ in range(200):
            program = Program(random_library(chance))
            again = Program.read(program.text())
            self.assertEqual(again.text(), program.text())
            self.assertEqual(again.modules(), program.modules())
            for module in program.modules():
                self.assertEqual(again.rows(module), program.rows(module))

    def test_beyond_the_limits_alone(self):
        self.taken('module a\n  say 1000\n  put x -123456789\n')
        self.taken(''.join('module %s\n  nothing\n' % word for word in 'abcdefgh'))
        self.taken('module a\n' + '  say 1\n' * 100)
        deep = [('say', 1)]
        for _ in range(20):
            deep = [('try', deep, [])]
        self.taken(Program({'a': deep}).text())


class TestMissing(Reading):

    def test_the_empty_text(self):
        self.refused('', 1)

    def test_lines_missing_at_the_end(self):
        self.refused('module a\n', 2)
        self.refused('module a\n  say 1\nmodule b\n', 4)
        self.refused('module a\n  make f\n', 3)
        self.refused('module a\n  when x\n', 3)
        self.refused('module a\n  when x\n    nothing\n', 4)
        self.refused('module a\n  try\n    say 1\n    say 2\n', 5)
        self.refused('module a\n  try\n    say 1\n  else\n', 5)
        self.refused('module a\n  try\n    try\n      nothing\n    else\n      nothing\n', 7)

    def test_each_text_cut_behind_a_line(self):
        lines = TEXT.splitlines(keepends=True)
        whole = ['nothing', 'say', 'call', 'fail', 'seen', 'tell', 'drop', 'part', 'copy', 'put',
                 'pick', 'load']
        open_blocks = set()
        for count in range(1, len(lines)):
            text = ''.join(lines[:count])
            # In the first block of a when or try row an else is missing.
            inside = 18 <= count < 27 or 29 <= count < 31
            last = lines[count - 1].split()[0]
            if last in whole and not inside:
                self.taken(text)
                open_blocks.add(count)
            else:
                self.refused(text, count + 1)
        self.assertGreater(len(open_blocks), 10)

    def test_a_last_line_without_its_line_feed(self):
        lines = TEXT.splitlines(keepends=True)
        for count in range(1, len(lines) + 1):
            self.refused(''.join(lines[:count])[:-1], count)
        for tail in (' ', '  ', 'module c', '  say 1', 'x', '\t'):
            self.refused('module a\n  nothing\n' + tail, 3)

    def test_an_earlier_line_is_refused_first(self):
        self.refused('module a\n  say\n  say 1', 2)
        self.refused('module a\n say 1\nmodule b\n', 2)
        self.refused('nothing', 1)


class TestWrongLines(Reading):

    def test_each_line_made_wrong(self):
        lines = TEXT.splitlines()
        for at, line in enumerate(lines):
            for wrong in (line + ' ', ' ' + line, '  ' + line + ' ', line + ' x', line + '\t',
                          '\t' + line, line[:-1] + '!', line.replace(' ', '  ') + ' ', '',
                          '    ' * 8 + line, line + ' 1', line.upper(), line + '\n'):
                changed = lines[:at] + [wrong] + lines[at + 1:]
                text = '\n'.join(changed) + '\n'
                if wrong == line + '\n':
                    self.refused(text, at + 2)
                else:
                    self.refused(text, at + 1)

    def test_lines_further_in_or_less_far(self):
        self.refused(' module a\n  nothing\n', 1)
        self.refused('module a\nsay 1\n', 2)
        self.refused('module a\n    say 1\n', 2)
        self.refused('module a\n   say 1\n', 2)
        self.refused('module a\n  say 1\n    say 2\n', 3)
        self.refused('module a\n  say 1\n say 2\n', 3)
        self.refused('module a\n  say 1\n  \n', 3)
        self.refused('module a\n  say 1\n\n', 3)
        self.refused('\nmodule a\n  say 1\n', 1)
        self.refused('module a\n  make f\n  say 1\n', 3)
        self.refused('module a\n  make f\n      say 1\n', 3)
        self.refused('module a\n\tsay 1\n', 2)

    def test_nothing_stands_alone(self):
        self.refused('nothing\n', 1)
        self.refused('module a\n  nothing\n  nothing\n', 3)
        self.refused('module a\n  nothing\n  say 1\n', 3)
        self.refused('module a\n  say 1\n  nothing\n', 3)
        self.refused('module a\nnothing\n', 2)
        self.refused('module a\n  nothing x\n', 2)
        self.refused('module a\n  make f\n    nothing\n    say 1\n', 4)
        self.refused('module a\n  make f\n    say 1\n    nothing\n', 4)
        self.refused('module a\n  make f\n  nothing\n', 3)

    def test_else_stands_between_the_blocks_alone(self):
        self.refused('module a\n  else\n', 2)
        self.refused('else\n', 1)
        self.refused('module a\n  say 1\n  else\n    nothing\n', 3)
        self.refused('module a\n  make f\n    say 1\n  else\n    nothing\n', 4)
        self.refused('module a\n  try\n  else\n    nothing\n', 3)
        self.refused('module a\n  try\n    nothing\n    else\n', 4)
        self.refused('module a\n  try\n    nothing\nelse\n', 4)
        self.refused('module a\n  try\n    nothing\n  else x\n', 4)
        self.refused('module a\n  try\n    nothing\n  say 1\n', 4)
        self.refused('module a\n  try\n    nothing\nmodule b\n', 4)
        self.refused('module a\n  try\n    nothing\n  else\n    nothing\n  else\n    nothing\n', 6)
        self.refused('module a\n  try\n    nothing\n  else\n  say 1\n', 5)

    def test_modules_twice_or_out_of_order(self):
        self.refused('module a\n  nothing\nmodule a\n  nothing\n', 3)
        self.refused('module b\n  nothing\nmodule a\n  nothing\n', 3)
        self.refused('module ab\n  nothing\nmodule aa\n  nothing\n', 3)
        self.refused('module a\n  say 1\nmodule ab\n  say 1\nmodule b\n  say 1\nmodule ab\n', 7)
        self.taken('module a\n  nothing\nmodule ab\n  nothing\nmodule b\n  nothing\n')

    def test_module_lines(self):
        for line in ('module', 'module ', 'module A', 'module abcdefghi', 'module a b', 'modul a',
                     'module  a', 'Module a', 'module a1', 'say 1', 'module a\t'):
            self.refused(line + '\n  nothing\n', 1)

    def test_row_lines(self):
        for line in ('nope', 'nope x', 'say', 'say x', 'say 1 2', 'say  1', 'put x', 'put 1 x',
                     'put x y', 'put x 1 1', 'load x', 'load x a y', 'load x 1', 'pick x a',
                     'pick x a 1', 'copy x', 'part x y', 'drop', 'drop 1', 'drop x y', 'tell 1',
                     'seen x', 'fail', 'fail x', 'make', 'make 1', 'make f g', 'call', 'when',
                     'when 1', 'try x', 'Say 1', 'drop X', 'drop abcdefghi', 'drop a-b', '\tsay 1',
                     'say 1 ', 'say 1\r'):
            self.refused('module a\n  say 1\n  %s\n' % line, 3)

    def test_numbers_as_str_writes_them(self):
        for word in ('0', '7', '10', '-1', '-10', '999', '-999', '1001', '90'):
            self.taken('module a\n  say %s\n' % word)
        for word in ('-0', '00', '01', '-01', '+1', '1_0', '1.0', '', '-', '--1', '1-', '0x1', 'x1',
                     '1x', '- 1', '1,0', '(1)', 'True'):
            self.refused('module a\n  say %s\n' % word, 2)

    def test_make_and_call_within_make_are_no_wrong_lines(self):
        for row in ('call f', 'make g\n      nothing'):
            with self.assertRaises(BadProgram) as caught:
                Program.read('module a\n  say 1\n  make f\n    %s\n' % row)
            self.assertEqual((caught.exception.module, caught.exception.path), ('a', (1, 0, 0)))
            self.refused('module a\n  make f\n    %s\n!\n' % row, 4 + row.count('\n'))


if __name__ == '__main__':
    unittest.main()
