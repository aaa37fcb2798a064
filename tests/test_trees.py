import copy
import unittest

from laidtrees.errors import NoDrawer, NoPath, NoTree, NotThere
from laidtrees.trees import alike, is_tree, names_in, plain, ties
from things import no_paths, no_trees, wide

D = ("drawer",)
A = ("a",)
ROOT = {(): D}
BIG = {
    ("b",): ("file", 7, "two"),
    ("a", "d"): ("file", 999, "one"),
    (): D,
    ("a", "c"): ("file", 7, "two"),
    ("ab",): ("file", 0, "one"),
    ("a",): D,
    ("c",): ("file", 999, "one"),
    ("e",): D,
    ("d",): ("file", 3, ""),
}
PLAIN = {
    (): D,
    ("a",): D,
    ("a", "c"): ("file", 0, "two"),
    ("a", "d"): ("file", 1, "one"),
    ("ab",): ("file", 2, "one"),
    ("b",): ("file", 0, "two"),
    ("c",): ("file", 1, "one"),
    ("d",): ("file", 3, ""),
    ("e",): D,
}


def chain(many):
    return {("a",) * at: D for at in range(many + 1)}


class IsTree(unittest.TestCase):
    def test_trees(self):
        for tree in (ROOT, BIG, PLAIN, chain(5), wide(80), {**ROOT, ("a",): ("file", 999, "a" * 40)}):
            self.assertIs(is_tree(tree), True)

    def test_no_trees(self):
        for at, thing in enumerate(no_trees() + [None]):
            with self.subTest(at=at):
                self.assertIs(is_tree(thing), False)

    def test_80_paths_and_81(self):
        self.assertEqual([is_tree(wide(many)) for many in (1, 2, 79, 80, 81, 82, 300)], [True] * 4 + [False] * 3)

    def test_paths_of_5_names_and_6(self):
        self.assertEqual([is_tree(chain(many)) for many in (0, 1, 4, 5, 6)], [True] * 4 + [False])

    def test_numbers(self):
        for number, told in ((0, True), (1, True), (999, True), (1000, False), (-1, False), (True, False),
                             (False, False), ("0", False), (None, False), (10 ** 40, False)):
            self.assertIs(is_tree({**ROOT, ("a",): ("file", number, "")}), told)

    def test_texts(self):
        for text, told in (("", True), ("a" * 40, True), ("a" * 41, False), ("A", False), (None, False)):
            self.assertIs(is_tree({**ROOT, ("a",): ("file", 0, text)}), told)

    def test_tied_files_have_one_text(self):
        tied = {**ROOT, ("a",): ("file", 5, "x"), ("b",): D, ("b", "a"): ("file", 5, "x")}
        self.assertIs(is_tree(tied), True)
        for text in ("", "y", "x ", " x"):
            self.assertIs(is_tree({**tied, ("b", "a"): ("file", 5, text)}), False)
            self.assertIs(is_tree({**tied, ("b", "a"): ("file", 6, text)}), True)

    def test_texts_that_look_like_kinds(self):
        for text in ("drawer", "file", "gone"):
            tree = {**ROOT, A: ("file", 0, text)}
            self.assertIs(is_tree(tree), True)
            self.assertIs(is_tree({**tree, ("a", "b"): D}), False)
            self.assertEqual(plain(tree), tree)
            self.assertRaises(NoDrawer, names_in, tree, A)

    def test_order_of_the_dict_does_not_matter(self):
        self.assertIs(is_tree(dict(reversed(list(BIG.items())))), True)


class Plain(unittest.TestCase):
    def test_plain(self):
        self.assertEqual(plain(BIG), PLAIN)
        self.assertEqual(plain(ROOT), ROOT)
        self.assertEqual(plain(PLAIN), PLAIN)
        self.assertEqual(plain(wide(80)), wide(80))

    def test_numbered_by_the_first_path(self):
        tree = {**ROOT, ("z",): ("file", 0, ""), ("y",): ("file", 1, ""), ("x",): ("file", 0, "")}
        self.assertEqual(plain(tree)[("x",)], ("file", 0, ""))
        self.assertEqual(plain(tree)[("y",)], ("file", 1, ""))
        self.assertEqual(plain(tree)[("z",)], ("file", 0, ""))

    def test_paths_rise_name_by_name(self):
        tree = {**ROOT, ("a",): D, ("ab",): ("file", 0, ""), ("a", "z"): ("file", 1, ""), ("aa",): ("file", 2, "")}
        told = plain(tree)
        self.assertEqual([told[path][1] for path in (("a", "z"), ("aa",), ("ab",))], [0, 1, 2])

    def test_many_files(self):
        tree = {**ROOT, **{path: ("file", 500 - at, "") for at, path in enumerate(sorted(wide(80))) if path}}
        self.assertEqual([thing[1] for path, thing in sorted(plain(tree).items()) if path], list(range(79)))

    def test_nothing_is_changed_or_kept(self):
        tree = copy.deepcopy(BIG)
        told = plain(tree)
        self.assertEqual(tree, BIG)
        self.assertIsNot(told, plain(tree))
        told.clear()
        tree.clear()
        self.assertEqual(plain(BIG), PLAIN)
        again = plain(PLAIN)
        self.assertIsNot(again, PLAIN)

    def test_no_tree(self):
        for at, thing in enumerate(no_trees() + [None]):
            with self.subTest(at=at), self.assertRaises(NoTree):
                plain(thing)


class Alike(unittest.TestCase):
    def test_alike(self):
        for tree, other in ((BIG, PLAIN), (PLAIN, BIG), (BIG, BIG), (ROOT, dict(ROOT)), (wide(80), wide(80))):
            self.assertIs(alike(tree, other), True)

    def test_not_alike(self):
        others = [
            ROOT,
            {path: thing for path, thing in BIG.items() if path != ("e",)},
            {**BIG, ("e",): ("file", 5, "")},
            {**BIG, ("d",): ("file", 3, "a")},
            {**BIG, ("d",): D},
            {**BIG, ("ab",): ("file", 999, "one")},
            {**BIG, ("c",): ("file", 1, "one")},
            {**BIG, ("b",): ("file", 8, "two")},
            {**BIG, ("f",): D},
        ]
        for at, other in enumerate(others):
            with self.subTest(at=at):
                self.assertIs(alike(BIG, other), False)
                self.assertIs(alike(other, BIG), False)

    def test_no_tree(self):
        for at, thing in enumerate(no_trees() + [None]):
            with self.subTest(at=at):
                self.assertRaises(NoTree, alike, thing, ROOT)
                self.assertRaises(NoTree, alike, ROOT, thing)
                self.assertRaises(NoTree, alike, thing, thing)


class NamesIn(unittest.TestCase):
    def test_names(self):
        self.assertEqual(names_in(BIG, ()), ["a", "ab", "b", "c", "d", "e"])
        self.assertEqual(names_in(BIG, ("a",)), ["c", "d"])
        self.assertEqual(names_in(BIG, ("e",)), [])
        self.assertEqual(names_in(ROOT, ()), [])
        self.assertEqual(names_in(chain(5), ("a",) * 4), ["a"])
        self.assertEqual(names_in(chain(5), ("a",) * 5), [])

    def test_rising(self):
        tree = {**ROOT, ("b",): D, ("ba",): D, ("a",): D, ("zzzz",): D, ("ab",): D}
        self.assertEqual(names_in(tree, ()), ["a", "ab", "b", "ba", "zzzz"])

    def test_a_new_list_each_time(self):
        names_in(BIG, ()).clear()
        self.assertEqual(len(names_in(BIG, ())), 6)

    def test_refusals(self):
        self.assertRaises(NotThere, names_in, BIG, ("x",))
        self.assertRaises(NotThere, names_in, BIG, ("b", "x"))
        self.assertRaises(NotThere, names_in, BIG, ("x", "x", "x", "x", "x"))
        self.assertRaises(NoDrawer, names_in, BIG, ("b",))
        self.assertRaises(NoDrawer, names_in, BIG, ("a", "c"))

    def test_no_path(self):
        for at, thing in enumerate(no_paths()):
            with self.subTest(at=at), self.assertRaises(NoPath):
                names_in(BIG, thing)

    def test_no_tree_first(self):
        for at, thing in enumerate(no_trees() + [None]):
            for path in ((), ("x",), None, "a"):
                with self.subTest(at=at, path=path), self.assertRaises(NoTree):
                    names_in(thing, path)


class Ties(unittest.TestCase):
    def test_ties(self):
        self.assertEqual(ties(BIG), [[("a", "c"), ("b",)], [("a", "d"), ("c",)]])
        self.assertEqual(ties(PLAIN), ties(BIG))
        self.assertEqual(ties(ROOT), [])
        self.assertEqual(ties({**ROOT, ("a",): ("file", 0, ""), ("b",): ("file", 1, "")}), [])

    def test_rising(self):
        tree = {**ROOT, **{(name,): ("file", "cab".index(name[0]), "") for name in ("c", "a", "b", "cc", "aa", "bb")}}
        tree[("aaa",)] = ("file", 1, "")
        self.assertEqual(ties(tree), [[("a",), ("aa",), ("aaa",)], [("b",), ("bb",)], [("c",), ("cc",)]])

    def test_new_lists_each_time(self):
        told = ties(BIG)
        told[0].clear()
        told.pop()
        self.assertEqual(ties(BIG), [[("a", "c"), ("b",)], [("a", "d"), ("c",)]])

    def test_no_tree(self):
        for at, thing in enumerate(no_trees() + [None]):
            with self.subTest(at=at), self.assertRaises(NoTree):
                ties(thing)


class NothingIsChanged(unittest.TestCase):
    def test_by_what_is_told(self):
        tree = copy.deepcopy(BIG)
        order = list(tree)
        is_tree(tree), plain(tree), alike(tree, tree), names_in(tree, ("a",)), ties(tree)
        self.assertEqual(tree, BIG)
        self.assertEqual(list(tree), order)

    def test_by_a_refusal(self):
        for thing in ({}, {("a",): D}, {**ROOT, ("a", "b"): D}, {**ROOT, ("a",): []}):
            before = copy.deepcopy(thing)
            for refused in (plain, ties, lambda tree: alike(tree, tree), lambda tree: names_in(tree, ("x",))):
                self.assertRaises(NoTree, refused, thing)
                self.assertEqual(thing, before)
                self.assertEqual(list(thing), list(before))


if __name__ == "__main__":
    unittest.main()
