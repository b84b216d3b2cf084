"""[4], [37]: the errors."""

import unittest

from firsttouch import errors

FIELDS = {
    'BadProgram': ('module', 'path'),
    'BadText': ('line',),
    'BadWord': ('word',),
    'BadPlace': ('place',),
    'BadDeed': ('deed',),
    'BadEye': ('eye',),
    'OtherProgram': (),
    'TooMany': ('most',),
}


def deep():
    """An object so deep that nobody can write it out."""
    thing = []
    for _ in range(5000):
        thing = [thing]
    return thing


class TestErrors(unittest.TestCase):

    def test_touch_error_is_made_of_nothing(self):
        self.assertIsInstance(errors.TouchError(), ValueError)
        self.assertEqual(errors.TouchError.__bases__, (ValueError,))

    def test_the_direct_subclasses_are_these_eight(self):
        for name in FIELDS:
            self.assertEqual(getattr(errors, name).__bases__, (errors.TouchError,))
            self.assertEqual(getattr(errors, name).__module__, 'firsttouch.errors')
        names = {cls.__name__ for cls in errors.TouchError.__subclasses__()}
        self.assertEqual(names, set(FIELDS))

    def test_fields_are_the_very_objects_by_position_and_by_name(self):
        for name, fields in FIELDS.items():
            things = [['any', {'object': k}] for k in range(len(fields))]
            made = [
                getattr(errors, name)(*things),
                getattr(errors, name)(**dict(zip(fields, things))),
            ]
            for error in made:
                for field, thing in zip(fields, things):
                    self.assertIs(getattr(error, field), thing)

    def test_made_of_any_objects(self):
        for name, fields in FIELDS.items():
            for thing in (None, True, 5, 'a', (), {}, deep()):
                error = getattr(errors, name)(*[thing for _ in fields])
                for field in fields:
                    self.assertIs(getattr(error, field), thing)
                self.assertIsInstance(str(error), str)

    def test_fields_are_kept_and_not_copied(self):
        word = []
        error = errors.BadWord(word)
        word.append(1)
        self.assertEqual(error.word, [1])

    def test_wrong_number_of_fields(self):
        for name, fields in FIELDS.items():
            with self.assertRaises(TypeError):
                getattr(errors, name)(*range(len(fields) + 1))

    def test_equal_only_if_the_same(self):
        self.assertNotEqual(errors.BadWord(1), errors.BadWord(1))


if __name__ == '__main__':
    unittest.main()
