"""Rows of drawn deeds, in which a mount is held against a house and against another model of a mount."""

import random
import unittest

from drawn import draw_layer, stacked
from laidtrees import errors
from laidtrees.errors import Dark, Full, TreeError
from laidtrees.houses import House
from laidtrees.layers import is_layer, is_stack, laid, look, shown
from laidtrees.mounts import Mount
from laidtrees.turning import together
from mountmodel import MountModel, steps_of
from things import two_letters

DEEDS = ["make"] * 4 + ["write"] * 6 + ["add", "add", "remove", "remove", "clear"] + ["move"] * 6 + ["tie"] * 4
WRONG = [None, "a", ("",), ("A",), ["a"], ("a",) * 6, True, 0]
WIDE = two_letters()[:12]


def drawn_stack(luck, many, names, long):
    while True:
        stack = [draw_layer(luck, many, names, long) for _ in range(luck.randrange(1, 5))]
        if len(stacked(stack)) > 1 and max(len(stacked(stack[at:])) for at in range(len(stack))) <= 80:
            return stack


class Walk:
    """A mount, a model of it, and what is drawn for both."""

    def __init__(self, case, seed, names="abc", long=3, many=12):
        self.case = case
        self.luck = random.Random(seed)
        self.names = names
        self.long = long
        stack = drawn_stack(self.luck, many, names, long)
        self.keep = self.luck.random() < 0.5
        self.mount = Mount(stack, keep=self.keep)
        self.model = MountModel(stack, self.keep)
        self.steps = 0
        self.power = None

    def free(self):
        """A path right within a drawer, where mostly nothing is."""
        drawers = [path for path, thing in self.model.tree().items() if thing == ("drawer",) and len(path) < 5]
        return self.luck.choice(drawers) + (self.luck.choice(self.names),)

    def there(self, kind):
        return self.luck.choice([path for path, thing in self.model.tree().items() if thing[0] in kind] or [()])

    def path(self):
        luck = self.luck
        if luck.random() < 0.02:
            return luck.choice(WRONG)
        if luck.random() < 0.6:
            return luck.choice(list(self.model.tree()))
        long = luck.randrange(self.long + 2)
        return tuple(luck.choice(self.names) for _ in range(long))

    def text(self):
        return self.luck.choice(["", "a", "b", "a b", "x" * 20, "x" * 39, "x" * 41 if self.luck.random() < 0.1 else "y"])

    def drawn_deed(self):
        deed = self.luck.choice(DEEDS)
        new = self.path() if deed in ("move", "tie") else None
        text = self.text() if deed in ("write", "add") else None
        if self.luck.random() < 0.25:
            return deed, self.path(), new, text
        if new is not None:
            new = self.free()
        if deed == "make" or (deed == "write" and self.luck.random() < 0.5):
            return deed, self.free(), new, text
        return deed, self.there(["file"] if deed in ("write", "add", "tie") else ["file", "drawer"]), new, text

    def call(self, which, deed, path, new, text):
        """What a deed of a mount, or of a house, is refused with, or None."""
        try:
            if text is not None:
                getattr(which, deed)(path, text=text)
            elif new is not None or deed in ("move", "tie"):
                getattr(which, deed)(path, new)
            else:
                getattr(which, deed)(path)
        except TreeError as told:
            return type(told)
        return None

    def deed(self):
        told = self.drawn_deed()
        house = House(self.model.tree())
        refusal = self.model.house().refusal(*told)
        refusal = refusal and getattr(errors, refusal)
        self.case.assertEqual(self.call(house, *told), refusal)
        after = self.model.twin()
        needed = 0
        if refusal is None:
            after.do(*told)
            needed = steps_of(self.model.layer(), after.layer())
            refusal = Full if len(after.upper) > 40 else None
        if refusal is None and self.power is not None and needed > self.power:
            self.dark(told, after, needed)
            return
        self.case.assertEqual(self.call(self.mount, *told), refusal)
        if refusal is None:
            self.steps += needed
            self.power = None if self.power is None else self.power - needed
            if after.torn == self.model.torn:
                self.case.assertEqual(self.mount.tree(), house.tree())
            self.model = after

    def dark(self, told, after, needed):
        self.case.assertEqual(self.call(self.mount, *told), Dark)
        self.steps += self.power
        self.case.assertIs(self.mount.is_dark(), True)
        self.case.assertRaises(Dark, self.mount.tree)
        if self.luck.random() < 0.3:
            self.mount.power(self.luck.choice([None, 0, 5]))
        self.mount.mend()
        if self.power >= needed // 2:
            self.model = after
        self.model.handles = {}
        self.power = None

    def give_power(self):
        self.power = self.luck.choice([None, None] + list(range(15)))
        self.mount.power(self.power)

    def freeze(self):
        if len(self.model.stack) == 4:
            self.case.assertRaises(Full, self.mount.freeze)
        else:
            self.mount.freeze()
            self.model.lie_over([self.model.layer()] + self.model.stack)

    def join(self):
        if sum(len(layer) for layer in self.model.stack) > 40:
            self.case.assertRaises(Full, self.mount.join)
            return
        before = self.mount.tree()
        self.mount.join()
        self.case.assertEqual(self.mount.tree(), before)
        upper = self.model.upper
        joined = self.model.stack[-1]
        for layer in self.model.stack[-2::-1]:
            joined = together(layer, joined)
        self.model.lie_over([joined])
        self.model.upper = upper

    def handle(self):
        files = [path for path, thing in self.model.tree().items() if thing[0] == "file"]
        if files:
            path = self.luck.choice(files)
            self.case.assertEqual(self.mount.opened(path), self.model.opened(path))
        if self.model.handles and self.luck.random() < 0.2:
            handle = self.luck.choice(list(self.model.handles))
            self.mount.shut(handle)
            del self.model.handles[handle]

    def mend(self):
        self.mount.mend()
        self.model.handles = {}
        self.power = None

    def twin(self):
        self.mount, old = self.mount.twin(), self.mount
        old.power()
        old.write(("zzzz",), text="")
        old.freeze() if len(old.below()) < 4 else None

    def go(self, many):
        rare = [self.give_power, self.freeze, self.join, self.handle, self.handle, self.handle, self.mend]
        for _ in range(many):
            luck = self.luck.random()
            if luck < 0.8:
                self.deed()
            elif luck < 0.99:
                self.luck.choice(rare)()
            elif len(self.model.upper) < 40 and len(self.model.tree()) < 80:
                self.twin()
            self.compare()

    def compare(self):
        case, mount, model = self.case, self.mount, self.model
        case.assertEqual(mount.upper(), model.layer())
        case.assertEqual(mount.tree(), model.tree())
        case.assertEqual(mount.many(), len(model.tree()))
        case.assertEqual(mount.broken(), model.torn)
        case.assertEqual(mount.steps(), self.steps)
        case.assertEqual(mount.below(), model.stack)
        for handle in model.handles:
            case.assertEqual(mount.text_of(handle), model.text_of(handle))
            case.assertIs(mount.is_stale(handle), model.is_stale(handle))
        if self.luck.random() < 0.1:
            self.compare_views()

    def compare_views(self):
        case, mount = self.case, self.mount
        case.assertTrue(is_layer(mount.upper()))
        case.assertTrue(is_stack(mount.below()))
        case.assertEqual(shown(mount.upper(), laid(mount.below())), mount.tree())
        house = House(mount.tree())
        for _ in range(5):
            path = self.path()
            for view in ("kind", "read", "listed", "tied"):
                told = []
                for which in (house, mount):
                    try:
                        told.append(getattr(which, view)(path))
                    except TreeError as refusal:
                        told.append(type(refusal))
                case.assertEqual(told[0], told[1])
        if len(mount.below()) < 4:
            for path in mount.tree():
                told = look([mount.upper()] + mount.below(), path)
                case.assertEqual(told[0], mount.kind(path))


class Walks(unittest.TestCase):
    def test_small_trees(self):
        for seed in range(120):
            with self.subTest(seed=seed):
                Walk(self, seed).go(60)

    def test_few_names(self):
        for seed in range(60):
            with self.subTest(seed=seed):
                Walk(self, 1000 + seed, "ab", 4).go(60)

    def test_full_layers_and_full_trees(self):
        for seed in range(40):
            with self.subTest(seed=seed):
                Walk(self, 2000 + seed, WIDE, 2, 40).go(80)

    def test_equal_calls_give_equal_answers(self):
        for seed in range(10):
            one, two = Walk(self, 3000 + seed), Walk(self, 3000 + seed)
            one.go(40)
            two.go(40)
            self.assertEqual(one.mount.upper(), two.mount.upper())
            self.assertEqual(one.mount.below(), two.mount.below())


if __name__ == "__main__":
    unittest.main()
