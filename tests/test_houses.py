import copy
import random
import unittest

from laidtrees import errors
from laidtrees.errors import (
    Full, IsDrawer, NoDrawer, NoPath, NotEmpty, NoText, NotThere, NoTree, Root, Taken, TooLong, TreeError, Within,
)
from laidtrees.houses import House
from laidtrees.trees import is_tree, plain, ties
from model import ORDERS, Model
from things import no_paths, no_texts, no_trees, wide

D = ("drawer",)
A, B, C, X = ("a",), ("b",), ("c",), ("x",)
AF, AG, AH = ("a", "f"), ("a", "g"), ("a", "h")
TREE = {
    (): D,
    A: D,
    AF: ("file", 4, "one"),
    AG: ("file", 9, "two"),
    AH: D,
    B: ("file", 4, "one"),
    C: D,
}


def house():
    return House(copy.deepcopy(TREE))


class Start(unittest.TestCase):
    def test_just_the_root(self):
        for one in (House(), House(None), House(tree=None), House({(): D})):
            self.assertEqual(one.tree(), {(): D})
            self.assertEqual(len(one), 1)

    def test_a_tree(self):
        self.assertEqual(house().tree(), plain(TREE))
        self.assertEqual(House(tree=TREE).tree(), plain(TREE))
        self.assertEqual(len(house()), 7)
        self.assertEqual(len(House(wide(80))), 80)

    def test_no_tree(self):
        for at, thing in enumerate(no_trees()):
            with self.subTest(at=at), self.assertRaises(NoTree):
                House(thing)

    def test_nothing_handed_in_is_changed_or_kept(self):
        tree = copy.deepcopy(TREE)
        one = House(tree)
        one.write(B, text="new")
        one.clear(A)
        self.assertEqual(tree, TREE)
        before = one.tree()
        tree.clear()
        self.assertEqual(one.tree(), before)

    def test_what_is_told_is_new_each_time(self):
        one = house()
        one.tree().clear()
        one.tree()[X] = D
        one.listed(()).clear()
        one.tied(B).clear()
        self.assertEqual(one.tree(), plain(TREE))
        self.assertEqual(one.listed(()), ["a", "b", "c"])
        self.assertEqual(one.tied(B), [AF, B])


class Make(unittest.TestCase):
    def test_make(self):
        one = house()
        self.assertIsNone(one.make(X))
        self.assertIsNone(one.make(("a", "h", "abcd")))
        self.assertEqual(one.tree(), plain({**TREE, X: D, ("a", "h", "abcd"): D}))

    def test_five_names_deep(self):
        one = House()
        for many in range(1, 6):
            one.make(("a",) * many)
        self.assertEqual(len(one), 6)
        self.assertRaises(NoPath, one.make, ("a",) * 6)

    def test_refusals(self):
        one = house()
        self.assertRaises(Root, one.make, ())
        self.assertRaises(NoDrawer, one.make, ("x", "y"))
        self.assertRaises(NoDrawer, one.make, ("b", "y"))
        self.assertRaises(Taken, one.make, A)
        self.assertRaises(Taken, one.make, B)
        self.assertEqual(one.tree(), plain(TREE))

    def test_79_and_80_paths(self):
        one = House(wide(79))
        one.make(X)
        self.assertEqual(len(one), 80)
        self.assertRaises(Full, one.make, ("y",))
        self.assertRaises(Full, one.make, ("x", "y"))
        self.assertRaises(Taken, one.make, X)
        self.assertRaises(NoDrawer, one.make, ("z", "y"))
        self.assertRaises(Root, one.make, ())
        self.assertEqual(one.tree(), {**wide(79), X: D})
        one.remove(X)
        one.make(("y",))


class Write(unittest.TestCase):
    def test_a_new_file(self):
        one = house()
        self.assertIsNone(one.write(X, text="new"))
        self.assertIsNone(one.write(("a", "a"), text=""))
        self.assertEqual(one.tree(), plain({**TREE, X: ("file", 0, "new"), ("a", "a"): ("file", 1, "")}))
        self.assertEqual(one.tied(X), [X])

    def test_a_file_that_is_there(self):
        one = house()
        one.write(AG, text="")
        self.assertEqual(one.tree(), plain({**TREE, AG: ("file", 9, "")}))

    def test_at_all_its_paths(self):
        one = house()
        one.write(B, text="x" * 40)
        self.assertEqual(one.read(AF), "x" * 40)
        self.assertEqual(one.tree(), plain({**TREE, AF: ("file", 4, "x" * 40), B: ("file", 4, "x" * 40)}))

    def test_the_same_text_is_no_tie(self):
        one = house()
        one.write(X, text="one")
        one.write(AG, text="one")
        self.assertEqual(ties(one.tree()), [[AF, B]])

    def test_refusals(self):
        one = house()
        self.assertRaises(NoText, one.write, X, text="x" * 41)
        self.assertRaises(Root, one.write, (), text="")
        self.assertRaises(NoDrawer, one.write, ("x", "y"), text="")
        self.assertRaises(NoDrawer, one.write, ("b", "y"), text="")
        self.assertRaises(IsDrawer, one.write, A, text="")
        self.assertEqual(one.tree(), plain(TREE))

    def test_79_and_80_paths(self):
        one = House(wide(79))
        one.write(X, text="a")
        self.assertRaises(Full, one.write, ("y",), text="")
        self.assertRaises(IsDrawer, one.write, ("aa",), text="")
        self.assertRaises(NoDrawer, one.write, ("x", "y"), text="")
        one.write(X, text="b")
        self.assertEqual(one.tree(), {**wide(79), X: ("file", 0, "b")})

    def test_the_text_is_handed_in_by_name(self):
        self.assertRaises(TypeError, house().write, X, "a")
        self.assertRaises(TypeError, house().add, B, "a")


class Add(unittest.TestCase):
    def test_add(self):
        one = house()
        self.assertIsNone(one.add(AG, text=" more"))
        self.assertIsNone(one.add(AG, text=""))
        self.assertEqual(one.tree(), plain({**TREE, AG: ("file", 9, "two more")}))

    def test_at_all_its_paths(self):
        one = house()
        one.add(AF, text="s")
        self.assertEqual([one.read(AF), one.read(B)], ["ones", "ones"])
        self.assertEqual(one.tied(B), [AF, B])

    def test_40_signs_and_41(self):
        one = house()
        self.assertRaises(TooLong, one.add, B, text="x" * 38)
        self.assertRaises(TooLong, one.add, B, text="x" * 40)
        one.add(B, text="x" * 37)
        self.assertEqual(one.read(B), "one" + "x" * 37)
        self.assertRaises(TooLong, one.add, AF, text=" ")
        one.add(AF, text="")
        self.assertEqual(one.read(AF), "one" + "x" * 37)

    def test_refusals(self):
        one = house()
        self.assertRaises(NoText, one.add, B, text="x" * 41)
        self.assertRaises(NotThere, one.add, X, text="")
        self.assertRaises(NotThere, one.add, ("b", "x"), text="x" * 40)
        self.assertRaises(IsDrawer, one.add, (), text="")
        self.assertRaises(IsDrawer, one.add, A, text="x" * 40)
        self.assertEqual(one.tree(), plain(TREE))


class Remove(unittest.TestCase):
    def test_remove(self):
        one = house()
        self.assertIsNone(one.remove(AH))
        self.assertIsNone(one.remove(AG))
        self.assertEqual(one.tree(), plain({path: TREE[path] for path in ((), A, AF, B, C)}))

    def test_a_file_is_gone_with_its_last_path(self):
        one = house()
        one.remove(AF)
        self.assertEqual(one.read(B), "one")
        self.assertEqual(one.tied(B), [B])
        one.remove(B)
        self.assertIsNone(one.kind(B))
        one.write(B, text="other")
        self.assertEqual(one.tied(B), [B])

    def test_refusals(self):
        one = house()
        self.assertRaises(Root, one.remove, ())
        self.assertRaises(Root, House().remove, ())
        self.assertRaises(NotThere, one.remove, X)
        self.assertRaises(NotThere, one.remove, ("b", "x"))
        self.assertRaises(NotEmpty, one.remove, A)
        self.assertEqual(one.tree(), plain(TREE))

    def test_a_name_that_begins_with_another(self):
        one = House({(): D, A: D, ("ab",): D, ("ab", "a"): D})
        one.remove(A)
        self.assertEqual(one.listed(()), ["ab"])

    def test_a_full_house(self):
        one = House(wide(80))
        one.remove(("aa",))
        self.assertEqual(len(one), 79)


class Clear(unittest.TestCase):
    def test_clear(self):
        one = house()
        self.assertIsNone(one.clear(A))
        self.assertEqual(one.tree(), plain({(): D, B: TREE[B], C: D}))
        one.clear(B)
        one.clear(C)
        self.assertEqual(one.tree(), {(): D})

    def test_all_within(self):
        one = House({("a",) * many: D for many in range(6)})
        one.clear(("a", "a"))
        self.assertEqual(one.tree(), {(): D, A: D})

    def test_not_what_only_looks_so(self):
        one = House({(): D, A: D, ("ab",): D, ("ab", "a"): D, B: D, ("b", "a"): D})
        one.clear(A)
        self.assertEqual(sorted(one.tree()), [(), ("ab",), ("ab", "a"), B, ("b", "a")])

    def test_refusals(self):
        one = house()
        self.assertRaises(Root, one.clear, ())
        self.assertRaises(NotThere, one.clear, X)
        self.assertRaises(NotThere, one.clear, ("b", "x"))
        self.assertEqual(one.tree(), plain(TREE))


class Move(unittest.TestCase):
    def test_a_file(self):
        one = house()
        self.assertIsNone(one.move(AG, X))
        self.assertEqual(one.tree(), plain({**{path: TREE[path] for path in TREE if path != AG}, X: TREE[AG]}))

    def test_a_drawer_and_all_within_it(self):
        one = house()
        one.make(("a", "h", "i"))
        one.move(A, ("c", "d"))
        self.assertEqual(one.tree(), plain({
            (): D, C: D, ("c", "d"): D, ("c", "d", "f"): TREE[AF], ("c", "d", "g"): TREE[AG], ("c", "d", "h"): D,
            ("c", "d", "h", "i"): D, B: TREE[B],
        }))
        self.assertEqual(one.tied(B), [B, ("c", "d", "f")])

    def test_up(self):
        one = house()
        one.move(AH, X)
        one.move(AF, ("x", "f"))
        self.assertEqual(one.listed(()), ["a", "b", "c", "x"])
        self.assertEqual(one.tied(B), [B, ("x", "f")])

    def test_five_names_and_six(self):
        one = House({**{("a",) * many: D for many in range(4)}, **{("b",) * many: D for many in (1, 2, 3)}})
        self.assertRaises(TooLong, one.move, A, ("b", "b", "b", "c"))
        self.assertRaises(TooLong, one.move, A, ("b", "b", "b", "a"))
        before = one.tree()
        one.move(A, ("b", "b", "c"))
        self.assertEqual(one.kind(("b", "b", "c", "a", "a")), "drawer")
        self.assertEqual(len(one), len(before))

    def test_refusals(self):
        one = house()
        self.assertRaises(Root, one.move, (), X)
        self.assertRaises(Root, one.move, A, ())
        self.assertRaises(Root, one.move, (), ())
        self.assertRaises(NotThere, one.move, X, ("y",))
        self.assertRaises(Within, one.move, A, ("a", "x"))
        self.assertRaises(Within, one.move, A, ("a", "h", "x"))
        self.assertRaises(NoDrawer, one.move, A, ("x", "y"))
        self.assertRaises(NoDrawer, one.move, A, ("b", "y"))
        self.assertRaises(Taken, one.move, A, B)
        self.assertRaises(Taken, one.move, A, C)
        self.assertRaises(Taken, one.move, AF, A)
        self.assertEqual(one.tree(), plain(TREE))

    def test_to_itself(self):
        one = house()
        self.assertRaises(Taken, one.move, A, A)
        self.assertRaises(Taken, one.move, B, B)
        self.assertEqual(one.tree(), plain(TREE))

    def test_several_refusals(self):
        one = house()
        self.assertRaises(Root, one.move, X, ())
        self.assertRaises(NotThere, one.move, X, ("x", "y"))
        self.assertRaises(NotThere, one.move, X, A)
        self.assertRaises(Within, one.move, B, ("b", "x"))
        self.assertRaises(Within, one.move, A, ("a", "x", "y"))
        self.assertRaises(Within, one.move, A, AF)
        self.assertEqual(one.tree(), plain(TREE))

    def test_taken_before_too_long(self):
        one = House({**{("a",) * many: D for many in range(6)}, B: D, ("b", "b"): D})
        self.assertRaises(Taken, one.move, A, ("b", "b"))
        self.assertRaises(NoDrawer, one.move, A, ("x", "b"))
        self.assertRaises(TooLong, one.move, A, ("b", "c"))
        one.move(A, C)

    def test_a_full_house(self):
        one = House(wide(80))
        one.move(("aa",), ("ab", "aa"))
        self.assertEqual(len(one), 80)


class Tie(unittest.TestCase):
    def test_tie(self):
        one = house()
        self.assertIsNone(one.tie(AG, X))
        self.assertIsNone(one.tie(X, ("c", "x")))
        self.assertEqual(one.tree(), plain({**TREE, X: TREE[AG], ("c", "x"): TREE[AG]}))
        one.write(X, text="new")
        self.assertEqual([one.read(path) for path in (AG, X, ("c", "x"), B)], ["new", "new", "new", "one"])

    def test_refusals(self):
        one = house()
        self.assertRaises(NotThere, one.tie, X, ("y",))
        self.assertRaises(IsDrawer, one.tie, A, X)
        self.assertRaises(IsDrawer, one.tie, (), X)
        self.assertRaises(NoDrawer, one.tie, B, ("x", "y"))
        self.assertRaises(NoDrawer, one.tie, B, ("b", "y"))
        self.assertRaises(Taken, one.tie, B, AF)
        self.assertRaises(Taken, one.tie, B, A)
        self.assertRaises(Taken, one.tie, B, B)
        self.assertRaises(Taken, one.tie, B, ())
        self.assertEqual(one.tree(), plain(TREE))

    def test_several_refusals(self):
        one = house()
        self.assertRaises(NotThere, one.tie, X, ())
        self.assertRaises(NotThere, one.tie, X, ("y", "y"))
        self.assertRaises(IsDrawer, one.tie, A, ())
        self.assertRaises(IsDrawer, one.tie, (), ())
        self.assertRaises(IsDrawer, one.tie, A, ("x", "y"))
        self.assertEqual(one.tree(), plain(TREE))

    def test_79_and_80_paths(self):
        one = House({**wide(78), A: ("file", 0, "")})
        one.tie(A, X)
        self.assertRaises(Full, one.tie, A, ("y",))
        self.assertRaises(Taken, one.tie, A, X)
        self.assertRaises(Taken, one.tie, A, ())
        self.assertRaises(NoDrawer, one.tie, A, ("z", "y"))
        self.assertEqual(len(one), 80)


class Views(unittest.TestCase):
    def test_kind(self):
        one = house()
        for path, told in (((), "drawer"), (A, "drawer"), (AH, "drawer"), (B, "file"), (AF, "file"), (X, None),
                           (("b", "x"), None), (("a",) * 5, None)):
            self.assertEqual(one.kind(path), told)

    def test_read(self):
        one = house()
        self.assertEqual([one.read(AF), one.read(AG), one.read(B)], ["one", "two", "one"])
        self.assertRaises(NotThere, one.read, X)
        self.assertRaises(NotThere, one.read, ("b", "x"))
        self.assertRaises(IsDrawer, one.read, ())
        self.assertRaises(IsDrawer, one.read, A)

    def test_listed(self):
        one = house()
        self.assertEqual([one.listed(()), one.listed(A), one.listed(C)], [["a", "b", "c"], ["f", "g", "h"], []])
        self.assertRaises(NotThere, one.listed, X)
        self.assertRaises(NotThere, one.listed, ("b", "x"))
        self.assertRaises(NoDrawer, one.listed, B)

    def test_tied(self):
        one = house()
        self.assertEqual([one.tied(AF), one.tied(B), one.tied(AG)], [[AF, B], [AF, B], [AG]])
        self.assertRaises(NotThere, one.tied, X)
        self.assertRaises(NotThere, one.tied, ("b", "x"))
        self.assertRaises(IsDrawer, one.tied, ())
        self.assertRaises(IsDrawer, one.tied, A)

    def test_twin(self):
        one = house()
        one.write(X, text="x")
        twin = one.twin()
        self.assertIs(type(twin), House)
        self.assertEqual(twin.tree(), one.tree())
        before = one.tree()
        twin.write(B, text="twin")
        twin.clear(A)
        self.assertEqual(one.tree(), before)
        after = twin.tree()
        one.clear(X)
        one.add(B, text="s")
        self.assertEqual(twin.tree(), after)

    def test_texts_that_look_like_kinds(self):
        one = House()
        for text in ("drawer", "file", "gone"):
            one.write(A, text=text)
            self.assertEqual([one.kind(A), one.read(A), one.tied(A)], ["file", text, [A]])
            self.assertRaises(NoDrawer, one.listed, A)
            self.assertRaises(NoDrawer, one.make, ("a", "b"))
            one.add(A, text="")
            self.assertEqual(one.tree(), {(): D, A: ("file", 0, text)})

    def test_views_change_nothing(self):
        one = house()
        one.kind(X), one.read(B), one.listed(A), one.tied(B), one.tree(), one.twin(), len(one)
        self.assertEqual(one.tree(), plain(TREE))


class WrongThings(unittest.TestCase):
    def test_no_path(self):
        one = house()
        for at, thing in enumerate(no_paths()):
            with self.subTest(at=at):
                for call in (one.make, one.remove, one.clear, one.kind, one.read, one.listed, one.tied):
                    self.assertRaises(NoPath, call, thing)
                for call in (one.write, one.add):
                    for text in ("", "x" * 41, None):
                        self.assertRaises(NoPath, call, thing, text=text)
                for call in (one.move, one.tie):
                    self.assertRaises(NoPath, call, thing, X)
                    self.assertRaises(NoPath, call, thing, thing)
                    for path in ((), X, A, B):
                        self.assertRaises(NoPath, call, path, thing)
        self.assertEqual(one.tree(), plain(TREE))

    def test_no_text(self):
        one = house()
        for at, thing in enumerate(no_texts()):
            with self.subTest(at=at):
                for path in ((), A, B, X, ("x", "y")):
                    self.assertRaises(NoText, one.write, path, text=thing)
                    self.assertRaises(NoText, one.add, path, text=thing)
        self.assertEqual(one.tree(), plain(TREE))


class Walks(unittest.TestCase):
    """Long rows of deeds, each compared with the model: what is refused, and what the tree is then."""

    DEEDS = ["make", "make", "write", "write", "add", "remove", "clear", "move", "move", "tie", "tie"]
    WRONG = [None, "a", ["a"], ("A",), ("a",) * 6]

    def path(self, chance, model):
        if chance.random() < 0.02:
            return chance.choice(self.WRONG)
        if chance.random() < 0.5:
            return chance.choice(sorted(model.at))
        path = chance.choice(sorted(model.at))
        return (path + (chance.choice(["a", "b", "ab", "c"]),))[:5] if chance.random() < 0.8 else ("b", "a", "c")

    def call(self, one, deed, path, new, text):
        if deed in ("write", "add"):
            return getattr(one, deed)(path, text=text)
        return getattr(one, deed)(path, new) if deed in ("move", "tie") else getattr(one, deed)(path)

    def compare(self, one, model, deed, row):
        refusal = model.refusal(deed, *row)
        if refusal is None:
            self.assertIsNone(self.call(one, deed, *row))
            model.do(deed, *row)
        else:
            with self.assertRaises(TreeError) as caught:
                self.call(one, deed, *row)
            self.assertIs(type(caught.exception), getattr(errors, refusal))
        self.assertEqual(one.tree(), model.tree())
        return refusal

    def look(self, one, model, path):
        for view in ("read", "listed", "tied"):
            refusal = model.refusal(view, path)
            if refusal is None:
                self.assertEqual(getattr(one, view)(path), model.told(view, path))
            else:
                self.assertRaises(getattr(errors, refusal), getattr(one, view), path)

    def crowded(self):
        """A tree of 78 paths, some of them deep, and with ties."""
        tree = wide(66)
        tree.update({("aa",) * many: D for many in range(6)})
        tree.update({("ab", name): ("file", ord(name) % 3, "xyz"[ord(name) % 3]) for name in "abcdefgh"})
        return tree

    def walk(self, tree, seed, many, deeds):
        chance = random.Random(seed)
        one, model = House(tree), Model(tree)
        seen = set()
        for _ in range(many):
            deed = chance.choice(deeds)
            text = chance.choice(["", "a", "b c", "x" * 39, "x" * 40, "x" * 41, None, " "])
            row = (self.path(chance, model), self.path(chance, model), text)
            seen.add((deed, self.compare(one, model, deed, row)))
            self.look(one, model, row[0])
            self.assertTrue(is_tree(one.tree()))
            self.assertEqual(plain(one.tree()), one.tree())
            self.assertEqual(len(one), len(model.at))
        return seen

    def test_walks(self):
        seen = set()
        for seed in range(20):
            seen |= self.walk({(): D}, seed, 200, self.DEEDS)
            seen |= self.walk(self.crowded(), seed, 100, self.DEEDS + ["move", "make", "write", "tie"])
        deeds = ("make", "write", "add", "remove", "clear", "move", "tie")
        told = {(deed, name) for deed in deeds for name in ORDERS[deed].split() + [None]}
        self.assertEqual(seen, told)

    def test_a_walk_told_twice(self):
        calls = [("make", A), ("make", B), ("move", A, ("b", "a")), ("remove", ("b", "a"))]
        trees = []
        for _ in range(2):
            one = House()
            for deed, *row in calls:
                getattr(one, deed)(*row)
            trees.append(one.tree())
        self.assertEqual(trees[0], trees[1])

    def test_a_very_long_life(self):
        one = House()
        for at in range(1500):
            one.write((("x",), ("y",))[at % 2], text="")
            if at:
                one.remove((("y",), ("x",))[at % 2])
        self.assertEqual(list(one.tree().values()), [D, ("file", 0, "")])
        self.assertEqual(one.listed(()), ["y"])
        self.assertEqual(one.twin().tree(), one.tree())


if __name__ == "__main__":
    unittest.main()
