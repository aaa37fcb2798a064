import copy
import random
import unittest

from drawn import draw_layer, draw_tree, is_open, over, shuffled, stacked, sure_trees
from laidtrees.errors import Full, NoLayer, NoPath, NoStack, NoTree
from laidtrees.layers import is_layer, is_stack, laid, look, open_drawers, shown
from laidtrees.trees import is_tree, plain, ties
from things import no_layers, no_paths, no_stacks, no_trees, wide, wide_layer

D, S, C, G = ("drawer",), ("drawer", False), ("drawer", True), ("gone",)
A, B, X = ("a",), ("b",), ("x",)
ROOT = {(): S}


def file(number, text=""):
    return ("file", number, text)


TREE = {(): D, A: D, ("a", "f"): file(4, "one"), ("a", "h"): D, ("a", "h", "i"): D, B: file(4, "one"), X: file(9)}


class IsLayer(unittest.TestCase):
    def test_layers(self):
        for layer in (
            ROOT, {(): C}, {(): S, A: C, ("a", "b"): S}, {(): C, A: S}, {(): S, A: G, B: file(0), X: C},
            {(): S, A: file(999, "a b"), B: file(999, "a b"), X: file(0, "x" * 40)},
            {("abcd",) * many: S for many in range(6)}, wide_layer(40), wide_layer(40, G),
        ):
            with self.subTest(layer=layer):
                self.assertIs(is_layer(layer), True)

    def test_no_layers(self):
        for at, thing in enumerate(no_layers()):
            with self.subTest(at=at):
                self.assertIs(is_layer(thing), False)

    def test_40_and_41_paths(self):
        for entry in (S, C, G, file(0)):
            self.assertIs(is_layer(wide_layer(40, entry)), True)
            self.assertIs(is_layer(wide_layer(41, entry)), False)

    def test_numbers(self):
        for number, answer in ((-1, False), (0, True), (1, True), (999, True), (1000, False), (True, False)):
            self.assertIs(is_layer({(): S, A: file(number)}), answer)

    def test_covers(self):
        for covers, answer in ((True, True), (False, True), (0, False), (1, False), (None, False), ("", False)):
            self.assertIs(is_layer({(): ("drawer", covers)}), answer)
            self.assertIs(is_layer({(): S, A: ("drawer", covers)}), answer)


class IsStack(unittest.TestCase):
    def test_stacks(self):
        self.assertIs(is_stack([ROOT]), True)
        self.assertIs(is_stack([ROOT] * 4), True)
        self.assertIs(is_stack([{(): C}, {(): S, A: G}, wide_layer(40)]), True)

    def test_no_stacks(self):
        for at, thing in enumerate(no_stacks()):
            with self.subTest(at=at):
                self.assertIs(is_stack(thing), False)

    def test_0_1_4_and_5_layers(self):
        for many, answer in ((0, False), (1, True), (2, True), (3, True), (4, True), (5, False)):
            self.assertIs(is_stack([ROOT] * many), answer)


class Shown(unittest.TestCase):
    def test_just_the_root(self):
        self.assertEqual(shown(ROOT, TREE), plain(TREE))
        self.assertEqual(shown({(): C}, TREE), {(): D})

    def test_entries_stand_in_the_place_of_what_is_below(self):
        layer = {(): S, A: file(0, "new"), B: S, ("b", "y"): file(1), X: G, ("new",): C}
        self.assertEqual(
            shown(layer, TREE), {(): D, A: file(0, "new"), B: D, ("b", "y"): file(1), ("new",): D},
        )

    def test_an_open_drawer_shows_what_is_within(self):
        layer = {(): S, A: S, ("a", "f"): G}
        self.assertEqual(shown(layer, TREE), {
            (): D, A: D, ("a", "h"): D, ("a", "h", "i"): D, B: file(0, "one"), X: file(1),
        })

    def test_a_drawer_that_covers(self):
        layer = {(): S, A: C, ("a", "g"): file(0, "g")}
        self.assertEqual(shown(layer, TREE), {
            (): D, A: D, ("a", "g"): file(0, "g"), B: file(1, "one"), X: file(2),
        })

    def test_a_drawer_below_one_that_covers(self):
        layer = {(): S, A: C, ("a", "h"): S}
        self.assertEqual(shown(layer, TREE), {(): D, A: D, ("a", "h"): D, B: file(0, "one"), X: file(1)})
        self.assertEqual(shown({(): C, A: S, ("a", "h"): S}, TREE), {(): D, A: D, ("a", "h"): D})

    def test_a_drawer_where_the_tree_has_a_file_or_nothing(self):
        layer = {(): S, B: S, ("b", "c"): S, ("new",): S, ("new", "c"): S}
        self.assertEqual(shown(layer, TREE), plain({
            **TREE, B: D, ("b", "c"): D, ("new",): D, ("new", "c"): D,
        }))
        self.assertEqual(open_drawers(layer, TREE), [()])

    def test_gone_with_nothing_below(self):
        layer = {(): S, ("no",): G, A: S, ("a", "no"): G}
        self.assertEqual(shown(layer, TREE), plain(TREE))

    def test_gone_with_much_within(self):
        self.assertEqual(shown({(): S, A: G}, TREE), {(): D, B: file(0, "one"), X: file(1)})

    def test_a_file_over_a_drawer(self):
        self.assertEqual(shown({(): S, A: file(4, "one")}, TREE), {
            (): D, A: file(0, "one"), B: file(1, "one"), X: file(2),
        })

    def test_files_of_layer_and_tree_are_never_tied(self):
        layer = {(): S, ("a",): S, ("a", "f"): file(4, "one"), ("z",): file(9), ("y",): file(4, "one")}
        tree = shown(layer, TREE)
        self.assertEqual(ties(tree), [[("a", "f"), ("y",)]])
        for number in (0, 1, 998, 999):
            for other in (0, 1, 998, 999):
                tree = shown({(): S, A: file(number)}, {(): D, B: file(other)})
                self.assertEqual(tree, {(): D, A: file(0), B: file(1)})

    def test_ties_below_stay(self):
        self.assertEqual(ties(shown({(): S, ("a",): S}, TREE)), [[("a", "f"), B]])

    def test_80_and_81_paths(self):
        self.assertEqual(len(shown({(): S, ("xxx",): S}, wide(79))), 80)
        self.assertRaises(Full, shown, {(): S, ("xxx",): S}, wide(80))
        self.assertEqual(shown({(): S, ("xxx",): G}, wide(80)), wide(80))
        self.assertEqual(len(shown({(): S, ("aa",): G, ("xxx",): S}, wide(80))), 80)
        self.assertEqual(shown({(): C, ("xxx",): S}, wide(80)), {(): D, ("xxx",): D})
        layer = wide_layer(40, S, ("aa",))
        self.assertEqual(len(shown(layer, wide(42))), 80)
        self.assertRaises(Full, shown, layer, wide(43))

    def test_refusals(self):
        for at, thing in enumerate(no_layers()):
            with self.subTest(at=at):
                self.assertRaises(NoLayer, shown, thing, TREE)
                self.assertRaises(NoLayer, shown, thing, None)
        for at, thing in enumerate(no_trees()):
            with self.subTest(at=at):
                self.assertRaises(NoTree, shown, ROOT, thing)
        self.assertRaises(NoTree, shown, ROOT, None)
        self.assertRaises(NoTree, shown, ROOT, wide(81))

    def test_drawn(self):
        luck = random.Random(1)
        for _ in range(1500):
            layer, tree = draw_layer(luck), draw_tree(luck)
            before = copy.deepcopy((layer, tree))
            found = shown(layer, tree)
            self.assertTrue(is_tree(found))
            self.assertEqual(found, over(layer, tree))
            self.assertEqual(found, plain(found))
            self.assertEqual((layer, tree), before)
            self.assertEqual(shown(shuffled(luck, layer), shuffled(luck, tree)), found)
            found.clear()
            self.assertEqual(shown(layer, tree), over(layer, tree))


class OpenDrawers(unittest.TestCase):
    def test_open_drawers(self):
        layer = {
            (): S, A: S, ("a", "f"): S, ("a", "h"): C, ("a", "h", "i"): S, ("b",): file(0), X: S, ("z",): S,
            ("a", "new"): S, ("a", "new", "b"): S,
        }
        self.assertEqual(open_drawers(layer, TREE), [(), A])
        self.assertEqual(open_drawers({**layer, ("a", "h"): S}, TREE), [(), A, ("a", "h"), ("a", "h", "i")])
        self.assertEqual(open_drawers({**layer, (): C}, TREE), [])
        self.assertEqual(open_drawers({(): S, A: C, ("a", "h"): S, ("a", "h", "i"): S}, TREE), [()])
        self.assertEqual(open_drawers({(): S, A: G}, TREE), [()])

    def test_refusals(self):
        for at, thing in enumerate(no_layers()):
            with self.subTest(at=at):
                self.assertRaises(NoLayer, open_drawers, thing, TREE)
                self.assertRaises(NoLayer, open_drawers, thing, None)
        for at, thing in enumerate(no_trees()):
            with self.subTest(at=at):
                self.assertRaises(NoTree, open_drawers, ROOT, thing)
        self.assertEqual(open_drawers({(): S, ("xxx",): S}, wide(80)), [()])

    def test_drawn(self):
        luck = random.Random(2)
        for _ in range(1500):
            layer, tree = draw_layer(luck), draw_tree(luck)
            before = copy.deepcopy((layer, tree))
            found = sorted(path for path in layer if is_open(layer, tree, path))
            self.assertEqual(open_drawers(shuffled(luck, layer), shuffled(luck, tree)), found)
            open_drawers(layer, tree).clear()
            self.assertEqual(open_drawers(layer, tree), found)
            self.assertEqual((layer, tree), before)


class Stacks(unittest.TestCase):
    def test_one_layer(self):
        self.assertEqual(laid([{(): C, A: S, ("a", "b"): file(7, "t"), X: G}]), {
            (): D, A: D, ("a", "b"): file(0, "t"),
        })

    def test_the_uppermost_is_first(self):
        upper, lower = {(): S, A: file(1, "upper"), B: G}, {(): S, A: file(1, "lower"), B: D + (False,), X: file(0)}
        self.assertEqual(laid([upper, lower]), {(): D, A: file(0, "upper"), X: file(1)})
        self.assertEqual(laid([lower, upper]), {(): D, A: file(0, "lower"), B: D, X: file(1)})

    def test_ties_over_two_layers(self):
        stack = [{(): S, A: file(0, "t")}, {(): S, B: file(0, "t"), X: file(0, "t")}]
        self.assertEqual(laid(stack), {(): D, A: file(0, "t"), B: file(1, "t"), X: file(1, "t")})

    def test_full_on_the_way(self):
        many = [wide_layer(40, S, ("t",)), wide_layer(40, S, ("u",))]
        more = {(): S, ("t",): S, ("t", "xxx"): S, ("t", "xxy"): S}
        self.assertEqual(len(laid(many)), 79)
        self.assertEqual(len(laid([{(): S, X: S}] + many)), 80)
        self.assertRaises(Full, laid, [more] + many)
        self.assertRaises(Full, laid, [{(): C}, more] + many)
        self.assertEqual(laid([{(): C}] + many), {(): D})

    def test_refusals(self):
        for at, thing in enumerate(no_stacks()):
            with self.subTest(at=at):
                self.assertRaises(NoStack, laid, thing)
                self.assertRaises(NoStack, look, thing, ())
                self.assertRaises(NoStack, look, thing, None)
        for at, thing in enumerate(no_paths()):
            with self.subTest(at=at):
                self.assertRaises(NoPath, look, [ROOT], thing)

    def test_look(self):
        stack = [
            {(): S, A: S, ("a", "b"): G, ("c",): C, ("d",): S},
            {(): S, A: S, ("a", "b"): file(3, "b"), ("a", "e"): file(3, "b"), ("d",): file(0), ("g",): G},
            {(): S, ("c",): S, ("c", "x"): S, ("d",): S, ("d", "x"): S, ("f",): file(0, "last"), ("g",): S},
        ]
        for path, thing in (
            ((), D), (A, D), (("a", "b"), None), (("a", "e"), ("file", "b")), (("c",), D), (("c", "x"), None),
            (("d",), D), (("d", "x"), None), (("f",), ("file", "last")), (("f", "x"), None), (("g",), None),
            (("g", "x"), None), (("z",), None), (("z",) * 5, None),
        ):
            with self.subTest(path=path):
                self.assertEqual(look(stack, path), thing)
        self.assertEqual(look([{(): C}], ()), D)

    def test_look_is_never_full(self):
        stack = [wide_layer(40, S, ("t",)), wide_layer(40, file(0, "a"), ("u",)), {(): S, ("v",): S, ("v", "w"): S}]
        self.assertRaises(Full, laid, stack)
        self.assertEqual(look(stack, ("v", "w")), D)
        self.assertEqual(look(stack, ("u", "aa")), ("file", "a"))
        self.assertIsNone(look(stack, ("v", "x")))

    def test_drawn(self):
        luck = random.Random(3)
        for _ in range(1000):
            stack = [draw_layer(luck, 10) for _ in range(luck.randrange(1, 5))]
            before = copy.deepcopy(stack)
            found = laid(stack)
            self.assertEqual(found, stacked(stack))
            paths = {path: True for layer in stack for path in layer}
            paths.update({path + ("a",): True for path in list(paths)})
            for path in paths:
                thing = found.get(path)
                self.assertEqual(look(stack, path), thing and (thing[0],) + thing[2:])
            self.assertEqual(laid([shuffled(luck, layer) for layer in stack]), found)
            found.clear()
            self.assertEqual(laid(stack), stacked(stack))
            self.assertEqual(stack, before)

    def test_sure_trees_stay_trees(self):
        for tree in sure_trees():
            self.assertEqual(shown(ROOT, tree), tree)


if __name__ == "__main__":
    unittest.main()
