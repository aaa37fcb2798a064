import unittest

from laidtrees.errors import NoPath
from laidtrees.paths import above, beginnings, is_name, is_path, is_text, is_within
from things import no_names, no_paths, no_texts

FIVE = ("a", "b", "c", "d", "e")


class Names(unittest.TestCase):
    def test_names(self):
        for name in ("a", "z", "ab", "abc", "abcd", "zzzz", "true"):
            self.assertIs(is_name(name), True)

    def test_no_names(self):
        for at, thing in enumerate(no_names()):
            with self.subTest(at=at):
                self.assertIs(is_name(thing), False)

    def test_lengths(self):
        self.assertEqual([is_name("x" * many) for many in range(7)], [False, True, True, True, True, False, False])

    def test_only_letters_a_to_z(self):
        for code in range(0x300):
            sign = chr(code)
            self.assertIs(is_name(sign), "a" <= sign <= "z")
            self.assertIs(is_name("a" + sign + "b"), "a" <= sign <= "z")


class Paths(unittest.TestCase):
    def test_paths(self):
        for path in ((), ("a",), ("abcd", "z"), FIVE, ("a", "a", "a", "a", "a")):
            self.assertIs(is_path(path), True)

    def test_no_paths(self):
        for at, thing in enumerate(no_paths()):
            with self.subTest(at=at):
                self.assertIs(is_path(thing), False)

    def test_lengths(self):
        self.assertEqual([is_path(("a",) * many) for many in range(8)], [True] * 6 + [False] * 2)

    def test_each_name_is_asked_for(self):
        for at in range(5):
            for wrong in ("", "abcde", "A", 1, True, None, b"a", ("a",)):
                self.assertIs(is_path(FIVE[:at] + (wrong,) + FIVE[at + 1:]), False)


class Texts(unittest.TestCase):
    def test_texts(self):
        for text in ("", "a", " ", "  ", "a b", " az ", "x" * 40, " " * 40, "abcdefghijklmnopqrstuvwxyz"):
            self.assertIs(is_text(text), True)

    def test_no_texts(self):
        for at, thing in enumerate(no_texts()):
            with self.subTest(at=at):
                self.assertIs(is_text(thing), False)

    def test_lengths(self):
        self.assertEqual([is_text("a" * many) for many in (0, 1, 39, 40, 41, 42)], [True] * 4 + [False] * 2)

    def test_only_letters_and_blanks(self):
        for code in range(0x300):
            sign = chr(code)
            self.assertIs(is_text(sign), "a" <= sign <= "z" or sign == " ")


class Above(unittest.TestCase):
    def test_above(self):
        self.assertIsNone(above(()))
        self.assertEqual(above(("a",)), ())
        self.assertEqual(above(("a", "b")), ("a",))
        self.assertEqual(above(FIVE), ("a", "b", "c", "d"))

    def test_no_path(self):
        for at, thing in enumerate(no_paths()):
            with self.subTest(at=at), self.assertRaises(NoPath):
                above(thing)


class IsWithin(unittest.TestCase):
    def test_all_short_ones(self):
        paths = [()] + [(a,) for a in "ab"] + [(a, b) for a in "ab" for b in "ab"] + [("ab",), ("a", "b", "a")]
        for path in paths:
            for other in paths:
                told = "/".join(("",) + path + ("",)).startswith("/".join(("",) + other + ("",))) and path != other
                self.assertIs(is_within(path, other), told)

    def test_edges(self):
        self.assertIs(is_within(("a",), ()), True)
        self.assertIs(is_within((), ("a",)), False)
        self.assertIs(is_within((), ()), False)
        self.assertIs(is_within(FIVE, FIVE), False)
        self.assertIs(is_within(FIVE, FIVE[:4]), True)
        self.assertIs(is_within(FIVE[:4], FIVE), False)
        self.assertIs(is_within(("ab",), ("a",)), False)
        self.assertIs(is_within(("b", "a"), ("a",)), False)

    def test_no_path(self):
        for at, thing in enumerate(no_paths()):
            with self.subTest(at=at):
                self.assertRaises(NoPath, is_within, thing, ())
                self.assertRaises(NoPath, is_within, ("a",), thing)
                self.assertRaises(NoPath, is_within, thing, thing)


class Beginnings(unittest.TestCase):
    def test_beginnings(self):
        self.assertEqual(beginnings(()), [()])
        self.assertEqual(beginnings(("a",)), [(), ("a",)])
        self.assertEqual(beginnings(("b", "a")), [(), ("b",), ("b", "a")])
        self.assertEqual(beginnings(FIVE), [(), FIVE[:1], FIVE[:2], FIVE[:3], FIVE[:4], FIVE])

    def test_a_new_list_each_time(self):
        told = beginnings(("a",))
        told.append(None)
        self.assertEqual(beginnings(("a",)), [(), ("a",)])

    def test_no_path(self):
        for at, thing in enumerate(no_paths()):
            with self.subTest(at=at), self.assertRaises(NoPath):
                beginnings(thing)


if __name__ == "__main__":
    unittest.main()
