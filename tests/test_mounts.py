import copy
import unittest

from laidtrees.errors import (
    Full, IsDrawer, NoDrawer, NoPath, NoStack, NotEmpty, NoText, NotThere, NoTree, Root, Taken, TooLong, TreeError,
    Within,
)
from laidtrees.houses import House
from laidtrees.layers import is_layer, is_stack, laid, shown
from laidtrees.mounts import Mount
from laidtrees.trees import plain
from things import anything, no_paths, no_stacks, no_texts, two_letters, wide_layer

D, S, C, G = ("drawer",), ("drawer", False), ("drawer", True), ("gone",)
A, B, X, Y = ("a",), ("b",), ("x",), ("y",)
AF, AG, AH, AHI = ("a", "f"), ("a", "g"), ("a", "h"), ("a", "h", "i")
ROOT = {(): S}


def file(number, text=""):
    return ("file", number, text)


# One file is at a/f, a/h/i and b; another one at a/g alone.
LOW = {
    (): S, A: S, AF: file(4, "one"), AG: file(9, "two"), AH: S, AHI: file(4, "one"), B: file(4, "one"), ("c",): S,
}


def mount(keep=True):
    return Mount([copy.deepcopy(LOW)], keep=keep)


class Case(unittest.TestCase):
    def stands(self, one, upper, broken=()):
        """What a mount has above, and that it shows just that over what is below."""
        self.assertEqual(one.upper(), upper)
        self.assertEqual(one.tree(), shown(upper, laid(one.below())))
        self.assertEqual(one.many(), len(one.tree()))
        self.assertEqual(one.broken(), list(broken))


class Start(Case):
    def test_just_the_stack(self):
        stack = [{(): S, X: file(7, "x"), A: G}, LOW]
        for one in (Mount(stack), Mount(stack, keep=True), Mount(stack, keep=False)):
            self.stands(one, ROOT)
            self.assertEqual(one.below(), stack)
            self.assertEqual(one.tree(), laid(stack))
            self.assertEqual(one.steps(), 0)
            self.assertIs(one.is_dark(), False)

    def test_1_and_4_layers(self):
        self.assertEqual(Mount([{(): C}]).tree(), {(): D})
        self.assertEqual(Mount([ROOT] * 4).tree(), {(): D})

    def test_no_stack(self):
        for at, thing in enumerate(no_stacks()):
            with self.subTest(at=at):
                self.assertRaises(NoStack, Mount, thing)
                self.assertRaises(NoStack, Mount, thing, keep=None)

    def test_keep_is_neither_true_nor_false(self):
        full = [wide_layer(40, S, (name,)) for name in "tuv"]
        for at, thing in enumerate(anything() + [0, 1, "", "True", (), {}]):
            if thing is not True and thing is not False:
                with self.subTest(at=at):
                    self.assertRaises(NoTree, Mount, [LOW], keep=thing)
                    self.assertRaises(NoTree, Mount, full, keep=thing)
        self.assertRaises(Full, Mount, full)

    def test_full(self):
        low = [wide_layer(40, S, ("t",)), wide_layer(40, S, ("u",))]
        self.assertEqual(Mount(low).many(), 79)
        self.assertEqual(Mount([{(): S, X: S}] + low).many(), 80)
        self.assertRaises(Full, Mount, [{(): S, X: S, Y: S}] + low)
        self.assertRaises(Full, Mount, [{(): C}, {(): S, X: S, Y: S}] + low, keep=False)

    def test_nothing_handed_in_is_changed_or_kept(self):
        stack = [copy.deepcopy(LOW)]
        one = Mount(stack)
        one.write(B, text="new")
        one.clear(A)
        self.assertEqual(stack, [LOW])
        before = one.tree()
        stack[0].clear()
        stack.clear()
        self.assertEqual(one.tree(), before)
        self.assertEqual(one.below(), [LOW])

    def test_what_is_told_is_new_each_time(self):
        one = mount(False)
        one.write(B, text="new")
        for thing in (one.tree(), one.upper(), one.below()[0], one.listed(()), one.tied(B), one.broken(), one.below()):
            thing.clear()
        self.stands(one, {(): S, B: file(0, "new")}, [B])
        self.assertEqual(one.below(), [LOW])
        self.assertEqual(one.listed(()), ["a", "b", "c"])
        self.assertEqual(one.tied(B), [B])

    def test_views(self):
        one = mount()
        kinds = [one.kind(path) for path in ((), A, AF, ("z",), ("z",) * 5)]
        self.assertEqual(kinds, ["drawer", "drawer", "file", None, None])
        self.assertEqual(one.read(AG), "two")
        self.assertEqual(one.listed(A), ["f", "g", "h"])
        self.assertEqual(one.tied(B), [AF, AHI, B])
        self.assertEqual(one.many(), 8)
        with self.assertRaises(TypeError):
            len(one)

    def test_views_are_refused_like_those_of_a_house(self):
        one = mount()
        for at, thing in enumerate(no_paths()):
            for view in (one.kind, one.read, one.listed, one.tied, one.opened):
                with self.subTest(at=at):
                    self.assertRaises(NoPath, view, thing)
        for view in (one.read, one.listed, one.tied, one.opened):
            self.assertRaises(NotThere, view, ("z",))
            self.assertRaises(NotThere, view, ("z", "z"))
        for view in (one.read, one.tied, one.opened):
            self.assertRaises(IsDrawer, view, A)
            self.assertRaises(IsDrawer, view, ())
        self.assertRaises(NoDrawer, one.listed, B)


class Make(Case):
    def test_make(self):
        one = mount()
        self.assertIsNone(one.make(("a", "h", "k")))
        self.stands(one, {(): S, A: S, AH: S, ("a", "h", "k"): S})
        one.make(("a", "h", "k", "l"))
        self.stands(one, {(): S, A: S, AH: S, ("a", "h", "k"): S, ("a", "h", "k", "l"): S})

    def test_where_something_was_taken_away(self):
        for path in (A, B, ("c",)):
            one = mount()
            one.clear(path)
            one.make(path)
            self.stands(one, {(): S, path: C})
            self.assertEqual(one.listed(path), [])
            one.remove(path)
            self.stands(one, {(): S, path: G})

    def test_where_something_new_was_taken_away(self):
        one = mount()
        one.make(X)
        one.remove(X)
        self.stands(one, ROOT)
        one.make(X)
        self.stands(one, {(): S, X: S})

    def test_within_one_that_covers(self):
        one = mount()
        one.clear(A)
        one.make(A)
        one.make(AH)
        self.stands(one, {(): S, A: C, AH: S})
        one.remove(AH)
        self.stands(one, {(): S, A: C})


class Write(Case):
    def test_a_new_file(self):
        one = mount()
        self.assertIsNone(one.write(("c", "x"), text="new"))
        self.stands(one, {(): S, ("c",): S, ("c", "x"): file(0, "new")})
        one.remove(("c", "x"))
        self.stands(one, {(): S, ("c",): S})

    def test_where_something_was_taken_away(self):
        one = mount()
        one.clear(A)
        one.write(A, text="new")
        self.stands(one, {(): S, A: file(0, "new")})
        one.remove(A)
        self.stands(one, {(): S, A: G})

    def test_with_ties_kept(self):
        one = mount()
        one.write(AHI, text="new")
        self.stands(one, {(): S, A: S, AF: file(0, "new"), AH: S, AHI: file(0, "new"), B: file(0, "new")})
        one.write(B, text="")
        self.stands(one, {(): S, A: S, AF: file(0), AH: S, AHI: file(0), B: file(0)})

    def test_with_ties_broken_off(self):
        one = mount(False)
        one.write(AHI, text="new")
        self.stands(one, {(): S, A: S, AH: S, AHI: file(0, "new")}, [AHI])
        self.assertEqual(one.tied(AF), [AF, B])
        self.assertEqual(one.read(AF), "one")
        one.write(AF, text="more")
        self.stands(one, {(): S, A: S, AF: file(0, "more"), AH: S, AHI: file(1, "new")}, [AHI, AF])
        one.write(B, text="last")
        self.stands(
            one, {(): S, A: S, AF: file(0, "more"), AH: S, AHI: file(1, "new"), B: file(2, "last")}, [AHI, AF],
        )

    def test_a_file_at_one_path_is_not_broken_off(self):
        one = mount(False)
        one.write(AG, text="new")
        self.stands(one, {(): S, A: S, AG: file(0, "new")})
        one.remove(AF)
        one.clear(AH)
        one.write(B, text="new")
        self.stands(one, {(): S, A: S, AF: G, AG: file(0, "new"), AH: G, B: file(1, "new")})

    def test_the_same_text(self):
        one = mount()
        one.write(B, text="one")
        self.stands(one, {(): S, A: S, AF: file(0, "one"), AH: S, AHI: file(0, "one"), B: file(0, "one")})
        one = mount(False)
        one.write(B, text="one")
        self.stands(one, {(): S, B: file(0, "one")}, [B])
        self.assertEqual(one.tied(B), [B])

    def test_paths_that_are_gone_are_not_taken_up(self):
        one = mount()
        one.remove(AF)
        one.write(B, text="new")
        self.stands(one, {(): S, A: S, AF: G, AH: S, AHI: file(0, "new"), B: file(0, "new")})


class Add(Case):
    def test_with_ties_kept(self):
        one = mount()
        self.assertIsNone(one.add(AF, text=" more"))
        more = file(0, "one more")
        self.stands(one, {(): S, A: S, AF: more, AH: S, AHI: more, B: more})
        one.add(B, text="x" * 32)
        self.assertEqual(one.read(AHI), "one more" + "x" * 32)
        self.assertRaises(TooLong, one.add, B, text="x")

    def test_with_ties_broken_off(self):
        one = mount(False)
        one.add(AF, text="")
        self.stands(one, {(): S, A: S, AF: file(0, "one")}, [AF])
        one.add(AF, text=" more")
        self.stands(one, {(): S, A: S, AF: file(0, "one more")}, [AF])


class Away(Case):
    def test_remove(self):
        one = mount()
        self.assertIsNone(one.remove(AF))
        self.stands(one, {(): S, A: S, AF: G})
        self.assertEqual(one.tied(B), [AHI, B])
        one.remove(("c",))
        self.stands(one, {(): S, A: S, AF: G, ("c",): G})
        one.remove(AHI)
        one.remove(AH)
        one.remove(AG)
        self.stands(one, {(): S, A: S, AF: G, AG: G, AH: G, ("c",): G})
        one.remove(A)
        self.stands(one, {(): S, A: G, ("c",): G})

    def test_clear(self):
        one = mount()
        one.write(("a", "x"), text="")
        one.remove(AF)
        self.assertIsNone(one.clear(A))
        self.stands(one, {(): S, A: G})
        one.make(X)
        one.write(("x", "y"), text="")
        one.clear(X)
        self.stands(one, {(): S, A: G})

    def test_within_what_is_covered_nothing_is_gone(self):
        one = mount()
        one.clear(A)
        one.make(A)
        one.write(AF, text="new")
        one.remove(AF)
        self.stands(one, {(): S, A: C})


class Move(Case):
    def test_a_new_thing(self):
        one = mount()
        one.make(X)
        one.write(("x", "y"), text="t")
        self.assertIsNone(one.move(X, ("c", "z")))
        self.stands(one, {(): S, ("c",): S, ("c", "z"): S, ("c", "z", "y"): file(0, "t")})

    def test_a_file_with_ties_kept(self):
        one = mount()
        one.move(B, X)
        both = file(0, "one")
        self.stands(one, {(): S, A: S, AF: both, AH: S, AHI: both, B: G, X: both})
        one.move(AHI, ("c", "i"))
        self.stands(one, {(): S, A: S, AF: both, AH: S, AHI: G, B: G, ("c",): S, ("c", "i"): both, X: both})

    def test_a_file_with_ties_broken_off(self):
        one = mount(False)
        one.move(AHI, X)
        self.stands(one, {(): S, A: S, AH: S, AHI: G, X: file(0, "one")}, [AHI])
        self.assertEqual(one.tied(B), [AF, B])
        one.move(AG, AHI)
        self.stands(one, {(): S, A: S, AG: G, AH: S, AHI: file(0, "two"), X: file(1, "one")}, [AHI])

    def test_a_drawer_with_ties_kept(self):
        one = mount()
        one.move(A, ("c", "n"))
        first, two = file(0, "one"), file(1, "two")
        self.stands(one, {
            (): S, A: G, B: first, ("c",): S, ("c", "n"): S, ("c", "n", "f"): first, ("c", "n", "g"): two,
            ("c", "n", "h"): S, ("c", "n", "h", "i"): first,
        })

    def test_a_drawer_with_ties_broken_off(self):
        one = mount(False)
        one.move(A, ("c", "n"))
        first, two = file(0, "one"), file(1, "two")
        self.stands(one, {
            (): S, A: G, ("c",): S, ("c", "n"): S, ("c", "n", "f"): first, ("c", "n", "g"): two,
            ("c", "n", "h"): S, ("c", "n", "h", "i"): first,
        }, [AF, AHI])
        self.assertEqual(one.tied(B), [B])
        self.assertEqual(one.tied(("c", "n", "f")), [("c", "n", "f"), ("c", "n", "h", "i")])

    def test_those_of_one_deed_are_broken_off_rising(self):
        low = {(): S, A: S, **{("a", name): file(at % 2) for at, name in enumerate("bcdef")}, X: file(0), Y: file(1)}
        one = Mount([low], keep=False)
        one.move(A, B)
        self.assertEqual(one.broken(), [("a", name) for name in "bcdef"])
        one.write(Y, text="new")
        self.assertEqual(one.tied(("b", "b")), [("b", "b"), ("b", "d"), ("b", "f")])
        self.assertEqual(one.broken(), [("a", name) for name in "bcdef"])

    def test_ties_within_alone_are_not_broken_off(self):
        one = mount(False)
        one.remove(B)
        one.move(A, X)
        self.assertEqual(one.broken(), [])
        self.assertEqual(one.tied(("x", "f")), [("x", "f"), ("x", "h", "i")])

    def test_to_where_something_was_taken_away(self):
        one = mount()
        one.clear(A)
        one.move(("c",), A)
        self.stands(one, {(): S, A: C, ("c",): G})
        one = mount()
        one.remove(B)
        one.make(X)
        one.make(("x", "y"))
        one.move(X, B)
        self.stands(one, {(): S, B: C, ("b", "y"): S})
        one.move(AG, X)
        one.move(X, AG)
        self.stands(one, {(): S, A: S, AG: file(0, "two"), B: C, ("b", "y"): S})

    def test_drawers_within_a_moved_one_do_not_cover(self):
        one = mount()
        one.clear(AH)
        one.make(AH)
        one.move(A, X)
        first, two = file(0, "one"), file(1, "two")
        self.stands(one, {(): S, A: G, B: first, X: S, ("x", "f"): first, ("x", "g"): two, ("x", "h"): S})
        one.move(X, A)
        self.stands(one, {(): S, A: C, AF: first, AG: two, AH: S, B: first})
        one.move(A, X)
        self.stands(one, {(): S, A: G, B: first, X: S, ("x", "f"): first, ("x", "g"): two, ("x", "h"): S})

    def test_a_drawer_that_covers_no_more(self):
        one = mount()
        one.remove(("c",))
        one.make(("c",))
        one.move(("c",), X)
        self.stands(one, {(): S, ("c",): G, X: S})


class Tie(Case):
    def test_a_new_file(self):
        one = mount()
        one.write(X, text="t")
        self.assertIsNone(one.tie(X, ("c", "x")))
        self.stands(one, {(): S, ("c",): S, ("c", "x"): file(0, "t"), X: file(0, "t")})

    def test_with_ties_kept(self):
        one = mount()
        one.tie(B, X)
        first = file(0, "one")
        self.stands(one, {(): S, A: S, AF: first, AH: S, AHI: first, B: first, X: first})
        self.assertEqual(one.tied(B), [AF, AHI, B, X])

    def test_with_ties_broken_off(self):
        one = mount(False)
        one.tie(AF, X)
        self.stands(one, {(): S, A: S, AF: file(0, "one"), X: file(0, "one")}, [AF])
        self.assertEqual(one.tied(X), [AF, X])
        self.assertEqual(one.tied(B), [AHI, B])
        one.write(X, text="new")
        self.assertEqual([one.read(path) for path in (AF, X, AHI, B)], ["new", "new", "one", "one"])

    def test_to_where_something_was_taken_away(self):
        one = mount()
        one.remove(("c",))
        one.tie(AG, ("c",))
        self.stands(one, {(): S, A: S, AG: file(0, "two"), ("c",): file(0, "two")})


class Refusals(Case):
    def both(self, house, one, deed, *paths, **texts):
        """A deed that both refuse; what the refusal is."""
        found = []
        for which in (house, one):
            with self.assertRaises(TreeError) as told:
                getattr(which, deed)(*paths, **texts)
            found.append(type(told.exception))
        self.assertEqual(found[0], found[1])
        return found[0]

    def test_those_of_a_house(self):
        one = mount()
        house = House(one.tree())
        before = one.upper(), one.steps()
        for kind, deed, paths, texts in (
            (Root, "make", [()], {}), (NoDrawer, "make", [("z", "y")], {}), (Taken, "make", [B], {}),
            (Root, "write", [()], {"text": ""}), (NoDrawer, "write", [("b", "y")], {"text": ""}),
            (IsDrawer, "write", [A], {"text": ""}), (NotThere, "add", [X], {"text": ""}),
            (IsDrawer, "add", [A], {"text": "x" * 40}), (TooLong, "add", [B], {"text": "x" * 38}),
            (Root, "remove", [()], {}), (NotThere, "remove", [X], {}), (NotEmpty, "remove", [A], {}),
            (Root, "clear", [()], {}), (NotThere, "clear", [X], {}), (Root, "move", [(), X], {}),
            (Root, "move", [X, ()], {}), (NotThere, "move", [X, X], {}), (Within, "move", [A, ("a", "z")], {}),
            (NoDrawer, "move", [A, ("b", "z")], {}), (Taken, "move", [A, ("c",)], {}), (Taken, "move", [A, A], {}),
            (NotThere, "tie", [X, ()], {}), (IsDrawer, "tie", [A, ()], {}), (NoDrawer, "tie", [B, ("z", "z")], {}),
            (Taken, "tie", [B, ()], {}), (Taken, "tie", [B, B], {}),
        ):
            with self.subTest(deed=deed, paths=paths):
                self.assertIs(self.both(house, one, deed, *paths, **texts), kind)
        self.assertEqual((one.upper(), one.steps()), before)

    def test_a_path_would_be_too_long(self):
        one = mount()
        for many in range(1, 4):
            one.make(("c",) * (many + 1))
        self.assertRaises(TooLong, one.move, A, ("c",) * 4 + ("n",))
        one.remove(AHI)
        self.assertRaises(TooLong, one.move, A, ("c",) * 4 + ("n",))
        self.assertRaises(NoDrawer, one.move, A, ("d",) * 4 + ("n",))

    def test_no_paths_and_no_texts(self):
        one = mount()
        for at, thing in enumerate(no_paths()):
            with self.subTest(at=at):
                for deed in (one.make, one.remove, one.clear):
                    self.assertRaises(NoPath, deed, thing)
                for deed in (one.move, one.tie):
                    self.assertRaises(NoPath, deed, thing, X)
                    self.assertRaises(NoPath, deed, ("z",), thing)
                self.assertRaises(NoPath, one.write, thing, text=None)
                self.assertRaises(NoPath, one.add, thing, text=None)
        for at, thing in enumerate(no_texts()):
            with self.subTest(at=at):
                self.assertRaises(NoText, one.write, (), text=thing)
                self.assertRaises(NoText, one.add, X, text=thing)
        self.stands(one, ROOT)
        self.assertEqual(one.steps(), 0)

    def test_80_paths_are_shown(self):
        low = [wide_layer(40, file(0), ("t",)), wide_layer(40, S, ("u",))]
        one = Mount(low)
        one.make(X)
        self.assertEqual(one.many(), 80)
        before = one.upper(), one.steps()
        self.assertRaises(Full, one.make, Y)
        self.assertRaises(Full, one.write, Y, text="")
        self.assertRaises(Full, one.tie, ("t", "aa"), Y)
        self.assertRaises(NoDrawer, one.make, ("z", "z"))
        self.assertEqual((one.upper(), one.steps()), before)
        one.remove(X)
        one.write(Y, text="")
        self.assertEqual(one.many(), 80)


class Full40(Case):
    """The upper layer has up to 40 paths."""

    def filled(self, many, keep=True, low=LOW):
        one = Mount([low], keep=keep)
        for name in two_letters()[:many - 1]:
            one.make((name,))
        self.assertEqual(len(one.upper()), many)
        return one

    def refused(self, one, deed, *paths, **texts):
        before = one.upper(), one.tree(), one.steps(), one.broken()
        self.assertRaises(Full, getattr(one, deed), *paths, **texts)
        self.assertEqual((one.upper(), one.tree(), one.steps(), one.broken()), before)

    def test_each_deed(self):
        for fits, deed, paths, texts in (
            (39, "make", [X], {}), (38, "make", [("c", "x")], {}), (37, "make", [("a", "h", "x")], {}),
            (39, "write", [X], {"text": ""}), (35, "write", [B], {"text": ""}), (35, "add", [B], {"text": ""}),
            (38, "write", [AG], {"text": ""}), (38, "remove", [AG], {}), (37, "remove", [AHI], {}),
            (39, "clear", [A], {}), (39, "remove", [B], {}), (37, "tie", [AG, X], {}), (34, "tie", [B, X], {}),
            (34, "move", [B, X], {}), (37, "move", [AG, X], {}), (33, "move", [A, X], {}),
        ):
            with self.subTest(deed=deed, paths=paths):
                one = self.filled(fits)
                getattr(one, deed)(*paths, **texts)
                self.assertEqual(len(one.upper()), 40)
                self.assertTrue(is_layer(one.upper()))
                self.refused(self.filled(fits + 1), deed, *paths, **texts)

    def test_with_ties_broken_off(self):
        for fits, deed, paths, texts in (
            (39, "write", [B], {"text": ""}), (38, "add", [AF], {"text": ""}), (38, "tie", [B, X], {}),
            (38, "move", [B, X], {}), (34, "move", [A, X], {}),
        ):
            with self.subTest(deed=deed, paths=paths):
                one = self.filled(fits, False)
                getattr(one, deed)(*paths, **texts)
                self.assertEqual(len(one.upper()), 40)
                self.refused(self.filled(fits + 1, False), deed, *paths, **texts)

    def test_other_refusals_come_first(self):
        one = self.filled(40)
        self.assertRaises(NotThere, one.add, ("z",), text="")
        self.assertRaises(TooLong, one.add, B, text="x" * 40)
        self.assertRaises(NotEmpty, one.remove, A)
        self.assertRaises(Taken, one.move, A, B)
        self.assertRaises(Taken, one.tie, AF, B)
        self.assertRaises(NoDrawer, one.make, ("z", "z"))

    def test_what_makes_it_no_fuller(self):
        one = self.filled(40)
        one.remove(("aa",))
        one.write(("ab", "x"), text="x")
        one.write(("ab", "x"), text="y")
        one.move(("ab", "x"), ("ac", "x"))
        self.assertEqual(len(one.upper()), 40)
        self.refused(one, "make", X)

    def test_on_the_way_a_move_may_need_more(self):
        one = Mount([{(): S, ("t",): S, **{("t", name): file(3) for name in two_letters()[:37]}}])
        one.move(("t",), X)
        self.assertEqual(len(one.upper()), 40)
        one.move(X, Y)
        self.assertEqual(len(one.upper()), 40)


class FreezeAndJoin(Case):
    def test_freeze(self):
        one = mount()
        one.write(B, text="new")
        one.remove(AG)
        tree, upper = one.tree(), one.upper()
        self.assertIsNone(one.freeze())
        self.stands(one, ROOT)
        self.assertEqual(one.tree(), tree)
        self.assertEqual(one.below(), [upper, LOW])
        self.assertTrue(is_stack(one.below()))
        self.assertEqual(one.steps(), 16)

    def test_freeze_at_3_and_4_layers(self):
        one = Mount([ROOT, ROOT, LOW])
        one.clear(A)
        one.freeze()
        self.assertEqual(one.below(), [{(): S, A: G}, ROOT, ROOT, LOW])
        one.make(A)
        before = one.upper(), one.below()
        self.assertRaises(Full, one.freeze)
        self.assertEqual((one.upper(), one.below()), before)
        one.join()
        one.freeze()
        self.assertEqual(len(one.below()), 2)
        self.assertEqual(one.below()[0], {(): S, A: S})

    def test_what_is_frozen_is_below(self):
        one = mount(False)
        one.write(AF, text="new")
        one.tie(AF, X)
        one.freeze()
        self.assertEqual(one.tied(X), [AF, X])
        one.write(X, text="more")
        self.stands(one, {(): S, X: file(0, "more")}, [AF, X])
        self.assertEqual(one.read(AF), "new")
        one.remove(X)
        self.stands(one, {(): S, X: G}, [AF, X])

    def test_join(self):
        one = Mount([{(): S, A: S, AF: G, X: file(3, "x")}, LOW])
        one.write(B, text="new")
        tree, upper = one.tree(), one.upper()
        self.assertIsNone(one.join())
        self.stands(one, upper)
        self.assertEqual(one.tree(), tree)
        self.assertEqual(len(one.below()), 1)
        self.assertTrue(is_layer(one.below()[0]))
        self.assertEqual(laid(one.below()), plain({**{path: D for path in ((), A, AH, ("c",))}, **{
            AG: file(1, "two"), AHI: file(0, "one"), B: file(0, "one"), X: file(2, "x"),
        }}))

    def test_join_of_one(self):
        one = mount()
        one.make(X)
        one.join()
        self.assertEqual(laid(one.below()), plain({path: D if entry == S else entry for path, entry in LOW.items()}))
        self.stands(one, {(): S, X: S})
        one = Mount([wide_layer(40)])
        one.join()
        self.assertEqual(one.below(), [wide_layer(40)])

    def test_join_at_40_and_41_paths(self):
        for sizes in ((20, 20), (1, 39), (39, 1), (10, 20, 10), (1, 1, 1, 37), (37, 1, 1, 1)):
            with self.subTest(sizes=sizes):
                stack = [wide_layer(many, S) for many in sizes]
                one = Mount(stack)
                one.make(X)
                one.join()
                self.assertEqual(one.below(), [wide_layer(max(sizes))])
                one = Mount([wide_layer(sizes[0] + 1)] + stack[1:])
                one.make(X)
                before = one.upper(), one.below(), one.tree()
                self.assertRaises(Full, one.join)
                self.assertEqual((one.upper(), one.below(), one.tree()), before)

    def test_the_uppermost_comes_first(self):
        one = Mount([{(): S, A: file(0, "first")}, {(): S, A: G, B: S}, {(): S, A: file(0, "third"), B: G}, LOW])
        one.join()
        self.assertEqual(laid(one.below())[A], file(0, "first"))
        self.assertEqual(one.kind(B), "drawer")


class Twin(Case):
    def test_a_twin_stands_just_so(self):
        for keep in (True, False):
            one = mount(keep)
            one.write(AHI, text="new")
            other = one.twin()
            for view in ("upper", "below", "tree", "broken", "steps", "is_dark", "many"):
                self.assertEqual(getattr(one, view)(), getattr(other, view)())
            other.write(B, text="other")
            one.remove(B)
            other.make(X)
            self.assertEqual(one.kind(B), None)
            self.assertEqual(one.kind(X), None)
            self.assertEqual(other.read(B), "other")
            self.assertEqual(other.tied(AF), [AF, AHI, B] if keep else [AF])
            self.assertEqual(other.broken(), [] if keep else [AHI, B])
            self.assertEqual(one.broken(), [] if keep else [AHI])

    def test_the_stacks_are_two(self):
        one = mount()
        one.make(X)
        other = one.twin()
        one.freeze()
        self.assertEqual(other.below(), [LOW])
        self.assertEqual(other.upper(), {(): S, X: S})
        other.freeze()
        other.join()
        self.assertEqual(len(one.below()), 2)


if __name__ == "__main__":
    unittest.main()
