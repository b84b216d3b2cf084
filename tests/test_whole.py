"""What holds over the whole program: limits that are not told, limits that are, and what is passed and told."""

import copy
import random
import unittest

from firsttouch.errors import BadDeed, BadEye, OtherProgram, TooMany, TouchError
from firsttouch.lates import Late
from firsttouch.parting import notice, paper, paper_holds, parting, warm_up
from firsttouch.programs import Program
from firsttouch.rings import rings
from firsttouch.sets import classes, greatest, hidden, nearest, quickest
from firsttouch.stories import story, touches
from firsttouch.worlds import World
from tests import brute
from tests.helpers import library, whole
from tests.samples import lively_library, random_deeds, random_library, random_places
from tests.test_parting import EYES, P

NAMES = ['x', 'y', 'z']


def counting_rows(*sizes):
    """Rows of a module with names of so many values each, counting that they are not there."""
    rows = []
    for name, size in zip(NAMES, sizes):
        for number in range(size - 1):
            rows.append(('make', name + 'abcdefghi'[number], [('put', name, number)]))
    return rows


def asks(program, late):
    """Each function that takes most, with the library of a late set."""
    one, other = World(program, late), World(program)
    return [
        lambda **most: parting(one, other, **most), lambda **most: notice(program, late, **most),
        lambda **most: paper(program, late, **most), lambda **most: warm_up(one, other, **most),
        lambda **most: classes(program, **most), lambda **most: hidden(program, **most),
        lambda **most: greatest(program, **most), lambda **most: nearest(program, late, **most),
        lambda **most: quickest(program, [], **most),
    ]


class TestMost(unittest.TestCase):

    def test_a_hundred_where_it_is_not_told(self):
        # Ten states of a, with that it is not in the table, and ten of b.
        program = Program({'a': counting_rows(3, 3), 'b': counting_rows(3, 3)})
        for ask in asks(program, Late.empty(program)):
            ask()
            ask(most=100)
            with self.assertRaises(TooMany) as caught:
                ask(most=99)
            self.assertEqual(caught.exception.most, 99)

    def test_one_more_than_a_hundred(self):
        # A hundred states of a, and that it is not in the table.
        program = Program({'a': counting_rows(5, 5, 4)})
        for ask in asks(program, Late.empty(program)):
            with self.assertRaises(TooMany) as caught:
                ask()
            self.assertEqual(caught.exception.most, 100)
            self.assertRaises(TooMany, ask, most=100)
            ask(most=101)

    def test_more_than_two_hundred(self):
        # 81 for a; for b that it is not in the table, or that its promise is not kept, or is.
        program = Program({'a': counting_rows(4, 4, 5), 'b': [('load', 'n', 'b')]})
        for ask in asks(program, Late.whole(program)):
            self.assertRaises(TooMany, ask)
            self.assertRaises(TooMany, ask, most=242)
            ask(most=243)

    def test_a_long_paper_may_be_passed_on(self):
        program = Program({'a': counting_rows(4, 4, 5), 'b': [('load', 'n', 'b')]})
        late = Late.whole(program)
        found = paper(program, late, table=True, most=300)
        self.assertEqual(len(found), 243)
        self.assertTrue(paper_holds(program, late, found, table=True))
        self.assertFalse(paper_holds(program, late, found[:-1], table=True))


class TestPassing(unittest.TestCase):

    def test_a_long_client_may_be_passed_on(self):
        # Each call of f hands on the 1 of the first name; k is put when the last one has it.
        words = ['n' + letter for letter in 'abcdefghijklmn']
        programs = []
        for number in (1, 2):
            shift = [('copy', *pair) for pair in zip(words[:0:-1], words[-2::-1])]
            last = ('when', words[-1], [('put', 'k', number)], [])
            rows = [('put', word, int(word == 'na')) for word in words] + [('make', 'f', shift + [last])]
            programs.append(Program({'a': rows}))
        first, second = programs
        client = parting(World(first), World(second))
        self.assertEqual(client, [('call', 'a', 'f')] * 13 + [('look', 'a', 'k')])
        self.assertIsNone(story(first, Late.empty(first), client))
        self.assertEqual(touches(first, Late.empty(first), client), [])
        self.assertEqual(quickest(first, [client]), ([], 15 + 13 * 14 + 1))

    def test_what_is_passed_stays(self):
        chance = random.Random(3)
        for _ in range(12):
            program = Program(lively_library(chance))
            places = random_places(chance, program)
            late = Late.of(program, places)
            client = random_deeds(chance, 3)
            one, other = World(program, late), World(program)
            one.do(client[0])
            kept = copy.deepcopy((program.text(), late.places(), client, one.state(), one.ran(), other.state()))
            for ask in (lambda: parting(one, other), lambda: warm_up(one, other), lambda: notice(program, late),
                        lambda: paper(program, late), lambda: story(program, late, client),
                        lambda: touches(program, late, client), lambda: classes(program),
                        lambda: greatest(program), lambda: nearest(program, late),
                        lambda: quickest(program, [client, client]), lambda: rings(program)):
                try:
                    ask()
                except TooMany:
                    pass
                told = (program.text(), late.places(), client, one.state(), one.ran(), other.state())
                self.assertEqual(told, kept)

    def test_the_same_is_told_again(self):
        chance = random.Random(4)
        for _ in range(8):
            program = Program(lively_library(chance))
            late = Late.of(program, random_places(chance, program))
            for ask in asks(program, late):
                told = []
                for _ in range(2):
                    try:
                        told.append(ask(most=40))
                    except TooMany as error:
                        told.append(error.most)
                self.assertEqual(told[0], told[1])

    def test_twins_of_worlds_are_parted_alike(self):
        chance = random.Random(17)
        for _ in range(40):
            program = Program(random_library(chance))
            one = World(program, Late.whole(program))
            for deed in random_deeds(chance, 3):
                one.do(deed)
            try:
                self.assertIsNone(parting(one, one.twin(), table=True, most=40))
            except TooMany:
                pass

    def test_equal_states_are_never_parted(self):
        # [18], over whatever clients there are: states alone tell what worlds answer.
        chance = random.Random(18)
        met = 0
        for _ in range(100):
            program = Program(lively_library(chance))
            late = Late.of(program, random_places(chance, program))
            by_state = {}
            for _ in range(6):
                world = World(program, late)
                for deed in random_deeds(chance, 3):
                    world.do(deed)
                by_state.setdefault(world.state(), []).append(world)
            for worlds in by_state.values():
                try:
                    self.assertIsNone(parting(worlds[0], worlds[-1], table=True, most=40))
                    met += worlds[0].ran() != worlds[-1].ran()
                except TooMany:
                    pass
        self.assertGreater(met, 5)


class TestTouchErrors(unittest.TestCase):

    def test_each_is_a_touch_error(self):
        program, late = whole(P)
        other = library(P)
        for error, ask in [
                (BadEye, lambda: notice(program, late, eye='none')),
                (TooMany, lambda: warm_up(World(program), World(program), most=1)),
                (OtherProgram, lambda: touches(other, late, [])),
                (BadDeed, lambda: story(program, late, [('load', 'a'), ()]))]:
            with self.assertRaises(TouchError) as caught:
                ask()
            self.assertIs(type(caught.exception), error)
            self.assertIsInstance(caught.exception, ValueError)


class TestBrute(unittest.TestCase):
    """What the other tests compare with tells the deeds of a client as the package does."""

    def test_deeds(self):
        program = library(P)
        self.assertEqual(brute.deeds_of([program], True), [
            ('call', 'a', 'b'), ('call', 'a', 'x'), ('load', 'a'), ('load', 'b'), ('look', 'a', 'b'),
            ('look', 'a', 'x'), ('seen', 'a'), ('seen', 'b')])
        for eye in EYES:
            self.assertTrue(brute.alike(eye, ((1, 2), 3), ((1, 2), 3)))
            self.assertEqual(brute.alike(eye, ((1, 2), 3), ((2, 1), 3)), eye != 'all')
            self.assertEqual(brute.alike(eye, ((1, 2), 3), ((2, 2), 3)), eye == 'values')
            self.assertFalse(brute.alike(eye, ((1, 2), 3), ((1, 2), 4)))


if __name__ == '__main__':
    unittest.main()
