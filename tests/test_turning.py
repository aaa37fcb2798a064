import copy
import itertools
import random
import unittest

from drawn import draw_layer, draw_tree, over, shuffled, sure_trees
from laidtrees.errors import Full, NoLayer, NoTree
from laidtrees.layers import is_layer, shown
from laidtrees.trees import alike, is_tree, plain
from laidtrees.turning import layer_to, parting, together
from things import no_layers, no_trees, two_letters, wide, wide_layer

D, S, C, G = ("drawer",), ("drawer", False), ("drawer", True), ("gone",)
A, B, X, Y = ("a",), ("b",), ("x",), ("y",)
ROOT = {(): S}


def file(number, text=""):
    return ("file", number, text)


class LayerTo(unittest.TestCase):
    def check(self, tree, other):
        layer = layer_to(tree, other)
        self.assertTrue(is_layer(layer))
        self.assertNotIn(C, layer.values())
        self.assertTrue(alike(shown(layer, tree), other))
        for path, entry in layer.items():
            if entry[0] != "drawer":
                fewer = {key: layer[key] for key in layer if key != path}
                self.assertFalse(alike(shown(fewer, tree), other), (tree, other, path))
        return layer

    def test_nothing_to_do(self):
        for tree in ({(): D}, {(): D, A: D, B: file(1, "b"), X: file(1, "b")}, {(): D, A: D, ("a", "b"): D}):
            self.assertEqual(self.check(tree, tree), ROOT)
            self.assertEqual(self.check(tree, plain(tree)), ROOT)

    def test_what_comes(self):
        self.assertEqual(
            self.check({(): D}, {(): D, A: D, ("a", "b"): file(5, "t"), X: file(5, "t"), Y: file(3)}),
            {(): S, A: S, ("a", "b"): file(0, "t"), X: file(0, "t"), Y: file(1)},
        )

    def test_what_goes(self):
        tree = {(): D, A: D, ("a", "b"): D, ("a", "b", "c"): file(0), X: D, ("x", "y"): D}
        self.assertEqual(self.check(tree, {(): D, X: D}), {(): S, A: G, X: S, ("x", "y"): G})

    def test_a_drawer_becomes_a_file_and_a_file_a_drawer(self):
        tree = {(): D, A: D, ("a", "b"): D, ("a", "b", "c"): file(0), X: file(1)}
        other = {(): D, A: file(0), X: D, ("x", "y"): D}
        self.assertEqual(self.check(tree, other), {(): S, A: file(0), X: S, ("x", "y"): S})

    def test_another_text(self):
        self.assertEqual(self.check({(): D, A: file(0, "a")}, {(): D, A: file(0, "b")}), {(): S, A: file(0, "b")})

    def test_a_file_that_stays_at_fewer_paths(self):
        tree = {(): D, A: file(3, "t"), B: file(3, "t"), X: file(3, "t")}
        self.assertEqual(self.check(tree, {(): D, A: file(0, "t"), X: file(0, "t")}), {(): S, B: G})

    def test_a_file_that_is_tied_to_more(self):
        tree = {(): D, A: file(3, "t"), B: file(3, "t")}
        other = {(): D, A: file(0, "t"), B: file(0, "t"), X: file(0, "t")}
        self.assertEqual(self.check(tree, other), {(): S, A: file(0, "t"), B: file(0, "t"), X: file(0, "t")})

    def test_two_files_that_become_one(self):
        tree = {(): D, A: file(3, "t"), B: file(4, "t")}
        other = {(): D, A: file(0, "t"), B: file(0, "t")}
        self.assertEqual(self.check(tree, other), {(): S, A: file(0, "t"), B: file(0, "t")})

    def test_one_file_that_becomes_two(self):
        tree = {(): D, A: file(3, "t"), B: file(3, "t"), X: file(3, "t")}
        self.assertEqual(
            self.check(tree, {(): D, A: file(0, "t"), B: file(1, "t"), X: file(1, "t")}), {(): S, A: file(0, "t")},
        )
        self.assertEqual(
            self.check(tree, {(): D, A: file(0, "t"), B: file(0, "t"), X: file(1, "t")}), {(): S, X: file(0, "t")},
        )
        self.assertEqual(
            self.check(tree, {(): D, A: file(0, "t"), B: file(1, "t"), X: file(2, "t")}),
            {(): S, B: file(0, "t"), X: file(1, "t")},
        )

    def test_one_file_that_becomes_two_as_large(self):
        tree = {(): D, A: file(3, "t"), B: file(3, "t"), X: file(3, "t"), Y: file(3, "t")}
        other = {(): D, A: file(0, "t"), B: file(1, "t"), X: file(0, "t"), Y: file(1, "t")}
        for order in itertools.permutations(other):
            layer = self.check({path: tree[path] for path in order}, {path: other[path] for path in order})
            self.assertEqual(layer, {(): S, B: file(0, "t"), Y: file(0, "t")})

    def test_a_moved_file(self):
        tree = {(): D, A: D, ("a", "f"): file(0, "t"), B: D}
        other = {(): D, A: D, B: D, ("b", "f"): file(0, "t")}
        self.assertEqual(self.check(tree, other), {(): S, A: S, ("a", "f"): G, B: S, ("b", "f"): file(0, "t")})

    def test_40_and_41_paths_together(self):
        for many in (1, 2, 20, 39):
            self.check(wide(many), wide(40 - many))
            self.assertRaises(Full, layer_to, wide(many), wide(41 - many))
            self.assertRaises(Full, layer_to, wide(41 - many), wide(many))
        self.assertEqual(self.check(wide(20), wide(20)), ROOT)
        self.assertRaises(Full, layer_to, wide(21), wide(21))
        self.assertRaises(Full, layer_to, wide(80), {(): D})
        files = {(): D, **{(name,): file(number) for number, name in enumerate(two_letters()[:38])}}
        self.check({(): D}, files)
        self.check(files, {(): D})
        self.assertRaises(Full, layer_to, {(): D, A: D}, files)

    def test_refusals(self):
        for at, thing in enumerate(no_trees() + [None]):
            with self.subTest(at=at):
                self.assertRaises(NoTree, layer_to, thing, {(): D})
                self.assertRaises(NoTree, layer_to, {(): D}, thing)
                self.assertRaises(NoTree, layer_to, wide(80), thing)

    def test_drawn(self):
        luck = random.Random(4)
        for _ in range(1500):
            tree, other = draw_tree(luck), draw_tree(luck)
            if luck.random() < 0.5:
                other = {**other, **tree} if is_tree({**other, **tree}) else other
            before = copy.deepcopy((tree, other))
            layer = self.check(tree, other)
            self.assertEqual(layer_to(shuffled(luck, tree), shuffled(luck, other)), layer)
            layer.clear()
            self.check(tree, other)
            self.assertEqual((tree, other), before)

    def test_all_small_ties(self):
        kinds = [None, D, file(0, "t"), file(1, "t"), file(2, "u")]
        trees = [
            {(): D, **{path: kind for path, kind in zip((A, B, X), row) if kind}}
            for row in itertools.product(kinds, repeat=3)
        ]
        for tree in trees:
            for other in trees:
                self.check(tree, other)


def trees_over(layers):
    """Trees over which layers with the same paths or others around them may show how they differ."""
    paths = sorted({path for layer in layers for path in layer})
    found = sure_trees()
    for path in paths:
        for more in (path, path + ("zz",)):
            if len(more) < 6:
                tops = {more[:many]: D for many in range(len(more))}
                found += [{**tops, more: thing} for thing in (D, file(0, "t")) if more]
    return found


class Together(unittest.TestCase):
    def check(self, upper, lower, trees=()):
        layer = together(upper, lower)
        self.assertTrue(is_layer(layer))
        for tree in [*trees, *trees_over([upper, lower])]:
            self.assertEqual(over(layer, tree), over(upper, over(lower, tree)), (upper, lower, tree))
        return layer

    def test_the_upper_one_comes_first(self):
        upper = {(): S, A: file(0, "u"), B: G}
        lower = {(): S, A: file(0, "l"), B: S, ("b", "c"): S, X: file(0, "l")}
        self.assertEqual(self.check(upper, lower), {(): S, A: file(0, "u"), B: G, X: file(1, "l")})
        self.check(lower, upper)

    def test_gone_below_a_drawer(self):
        for entry in (G, C, file(0, "t")):
            self.assertEqual(self.check({(): S, A: S, ("a", "b"): S}, {(): S, A: entry}), {(): S, A: C, ("a", "b"): S})
        self.assertEqual(self.check({(): S, A: S}, {(): C}), {(): C, A: S})
        self.assertEqual(self.check({(): S, A: S}, {(): C, A: G}), {(): C, A: C})

    def test_a_drawer_that_lets_through_both(self):
        lower = {(): S, A: S, ("a", "b"): file(3), ("a", "c"): G}
        self.assertEqual(self.check({(): S, A: S}, lower), {**lower, ("a", "b"): file(0)})
        self.assertEqual(self.check(ROOT, lower), {**lower, ("a", "b"): file(0)})
        self.assertEqual(self.check({(): S, A: S, ("a", "b"): S}, {(): S, A: S}), {(): S, A: S, ("a", "b"): S})

    def test_a_drawer_that_covers_all_below(self):
        lower = {(): S, A: S, ("a", "b"): file(3), B: file(3)}
        self.assertEqual(self.check({(): S, A: C}, lower), {(): S, A: C, B: file(0)})
        self.assertEqual(self.check({(): C, A: S}, lower), {(): C, A: S})

    def test_files_of_both_are_never_tied(self):
        for number in (0, 1, 998, 999):
            for other in (0, 1, 998, 999):
                self.assertEqual(
                    self.check({(): S, A: file(number), X: file(number)}, {(): S, B: file(other), Y: file(other)}),
                    {(): S, A: file(0), B: file(1), X: file(0), Y: file(1)},
                )

    def test_40_and_41_paths_together(self):
        for many in (1, 2, 20, 39):
            self.assertTrue(is_layer(together(wide_layer(many, G), wide_layer(40 - many, file(7)))))
            self.assertRaises(Full, together, wide_layer(many), wide_layer(41 - many))
            self.assertRaises(Full, together, wide_layer(41 - many), wide_layer(many))
        self.assertEqual(together(wide_layer(39), ROOT), wide_layer(39))
        self.assertEqual(together(ROOT, wide_layer(39, C)), wide_layer(39, C))
        self.assertRaises(Full, together, ROOT, wide_layer(40))
        self.assertRaises(Full, together, {(): C}, wide_layer(40))
        self.assertRaises(Full, together, wide_layer(40), wide_layer(40))

    def test_refusals(self):
        for at, thing in enumerate(no_layers()):
            with self.subTest(at=at):
                self.assertRaises(NoLayer, together, thing, ROOT)
                self.assertRaises(NoLayer, together, ROOT, thing)
                self.assertRaises(NoLayer, together, wide_layer(40), thing)

    def test_drawn(self):
        luck = random.Random(5)
        for _ in range(600):
            upper, lower = draw_layer(luck), draw_layer(luck)
            before = copy.deepcopy((upper, lower))
            layer = self.check(upper, lower, [draw_tree(luck) for _ in range(8)])
            self.assertEqual(together(shuffled(luck, upper), shuffled(luck, lower)), layer)
            layer.clear()
            self.check(upper, lower)
            self.assertEqual((upper, lower), before)

    def test_three(self):
        luck = random.Random(6)
        for _ in range(300):
            first, second, third = [draw_layer(luck, 8) for _ in range(3)]
            left = together(together(first, second), third)
            right = together(first, together(second, third))
            self.assertIsNone(parting(left, right))


class Parting(unittest.TestCase):
    def same(self, layer, other):
        self.assertIsNone(parting(layer, other))
        self.assertIsNone(parting(other, layer))

    def parted(self, layer, other):
        for one, two in ((layer, other), (other, layer)):
            tree = parting(one, two)
            self.assertTrue(is_tree(tree), (one, two))
            self.assertFalse(alike(shown(one, tree), shown(two, tree)))

    def test_the_same(self):
        self.same(ROOT, {(): S})
        self.same({(): S, A: file(0), B: file(0)}, {(): S, B: file(7), A: file(7)})
        self.same({(): S, A: C, ("a", "b"): S}, {(): S, A: C, ("a", "b"): C})
        self.same({(): S, A: C, ("a", "b"): G}, {(): S, A: C})
        self.same({(): C, A: S, ("a", "b"): G}, {(): C, A: C})
        self.same({(): C, A: G}, {(): C})

    def test_a_drawer_of_five_names_covers_nothing(self):
        tops = {("a",) * many: S for many in range(5)}
        self.same({**tops, ("a",) * 5: S}, {**tops, ("a",) * 5: C})
        self.parted({**tops, ("a",) * 4: S}, {**tops, ("a",) * 4: C})

    def test_parted_over_the_root_alone(self):
        self.parted(ROOT, {(): S, A: S})
        self.parted(ROOT, {(): S, A: C})
        self.parted({(): S, A: file(0)}, {(): S, A: S})
        self.parted({(): S, A: file(0, "a")}, {(): S, A: file(0, "b")})
        self.parted({(): S, A: file(0), B: file(0)}, {(): S, A: file(0), B: file(1)})
        self.parted({(): S, A: file(0)}, {(): S, A: G})

    def test_parted_over_more(self):
        self.parted(ROOT, {(): C})
        self.parted(ROOT, {(): S, A: G})
        self.parted({(): S, A: S}, {(): S, A: C})
        self.parted({(): S, A: S}, {(): S, A: S, ("a", "b"): G})
        self.parted({(): S, A: S, ("a", "b"): S}, {(): S, A: S, ("a", "b"): C})
        self.parted({(): S, A: C, ("a", "b"): S}, {(): S, A: S, ("a", "b"): S})

    def test_all_short_names_are_taken(self):
        names = list("abcdefghijklmnopqrstuvwxyz") + two_letters()[:13]
        gone = {(): S, **{(name,): G for name in names}}
        self.assertEqual(len(gone), 40)
        self.parted(gone, {**gone, (): C})
        other = {(): S, **{(name,): G for name in two_letters()[:39]}}
        self.parted(gone, other)
        self.parted(wide_layer(40, S), {**wide_layer(40, S), (): C})
        self.parted(wide_layer(40, C), {**wide_layer(40, C), ("aa",): S})

    def test_a_tree_that_fits_full_layers(self):
        long = {("a",) * many: S for many in range(6)}
        tops = {**long, **{("a", "a", "a", "a", name): G for name in two_letters()[:34]}}
        self.assertEqual(len(tops), 40)
        self.parted(tops, {**tops, ("a",) * 4: C})

    def test_refusals(self):
        for at, thing in enumerate(no_layers()):
            with self.subTest(at=at):
                self.assertRaises(NoLayer, parting, thing, ROOT)
                self.assertRaises(NoLayer, parting, ROOT, thing)

    def test_drawn(self):
        luck = random.Random(7)
        found = {True: 0, False: 0}
        for _ in range(800):
            layer = draw_layer(luck, 6, "ab")
            other = draw_layer(luck, 6, "ab")
            if luck.random() < 0.7:
                other = {path: luck.choice([S, C]) if entry[0] == "drawer" else entry for path, entry in layer.items()}
            if luck.random() < 0.3:
                other = {path: entry for path, entry in other.items() if entry != G}
            before = copy.deepcopy((layer, other))
            tree = parting(layer, other)
            found[tree is None] += 1
            self.assertEqual(parting(shuffled(luck, layer), shuffled(luck, other)), tree)
            if tree is None:
                for one in trees_over([layer, other]) + [draw_tree(luck) for _ in range(8)]:
                    self.assertEqual(over(layer, one), over(other, one), (layer, other, one))
            else:
                self.assertTrue(is_tree(tree))
                self.assertFalse(alike(shown(layer, tree), shown(other, tree)))
                tree.clear()
                self.assertNotEqual(parting(layer, other), tree)
            self.assertEqual((layer, other), before)
        self.assertGreater(min(found.values()), 100)

    def test_two_and_what_is_put_together(self):
        luck = random.Random(8)
        for _ in range(200):
            layer = draw_layer(luck, 10)
            self.assertIsNone(parting(together(layer, ROOT), layer))
            self.assertIsNone(parting(together(ROOT, layer), layer))


if __name__ == "__main__":
    unittest.main()
