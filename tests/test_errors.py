import unittest

from laidtrees import errors

NAMES = """NoPath NoText NoTree NoLayer NoStack NoHandle NoPower Root NotThere NoDrawer IsDrawer Taken
NotEmpty Within TooLong Full Dark""".split()


class Errors(unittest.TestCase):
    def test_tree_error_is_a_value_error(self):
        self.assertEqual(errors.TreeError.__bases__, (ValueError,))
        self.assertEqual(errors.TreeError.__module__, "laidtrees.errors")

    def test_each_is_right_under_tree_error(self):
        for name in NAMES:
            with self.subTest(name=name):
                found = getattr(errors, name)
                self.assertEqual(found.__bases__, (errors.TreeError,))
                self.assertEqual(found.__name__, name)
                self.assertEqual(found.__module__, "laidtrees.errors")

    def test_none_is_another(self):
        self.assertEqual(len({getattr(errors, name) for name in NAMES}), len(NAMES))

    def test_there_are_no_more(self):
        found = [name for name, thing in vars(errors).items() if isinstance(thing, type)]
        self.assertEqual(sorted(found), sorted(NAMES + ["TreeError"]))

    def test_they_can_be_raised_and_caught(self):
        for name in NAMES:
            with self.subTest(name=name), self.assertRaises(errors.TreeError):
                raise getattr(errors, name)("why")


if __name__ == "__main__":
    unittest.main()
