import unittest

from laidtrees.errors import Dark, Full, NoHandle, NoPower, NotThere, TreeError
from laidtrees.mounts import Mount
from things import no_numbers, no_paths, no_texts, two_letters

D, S, G = ("drawer",), ("drawer", False), ("gone",)
A, B, X, Y = ("a",), ("b",), ("x",), ("y",)
AF, AG = ("a", "f"), ("a", "g")
LOW = {(): S, A: S, AF: ("file", 0, "one"), AG: ("file", 1, "two"), B: ("file", 0, "one"), ("c",): S}
# Each with how many entries come, go or become others.
DEEDS = [
    ("make", [X], {}, 1), ("make", [("c", "x")], {}, 2), ("write", [X], {"text": ""}, 1),
    ("write", [B], {"text": "one"}, 3), ("add", [AG], {"text": "x"}, 2), ("remove", [AG], {}, 2),
    ("remove", [B], {}, 1), ("clear", [A], {}, 1), ("move", [B, X], {}, 4), ("move", [A, X], {}, 5),
    ("tie", [AG, ("c", "x")], {}, 4), ("tie", [B, X], {}, 4),
]


def mount(keep=True):
    return Mount([LOW], keep=keep)


def views(one):
    return one.tree(), one.upper(), one.below(), one.broken(), one.many()


class Steps(unittest.TestCase):
    def test_twice_as_many_and_two(self):
        for deed, paths, texts, many in DEEDS:
            with self.subTest(deed=deed, paths=paths):
                one = mount()
                getattr(one, deed)(*paths, **texts)
                self.assertEqual(one.steps(), 2 * many + 2)

    def test_of_what_is_in_the_upper_layer(self):
        one = mount()
        done = 0
        for deed, paths, texts, many in (
            ("make", [X], {}, 1), ("write", [("x", "y")], {"text": "y"}, 1), ("tie", [("x", "y"), Y], {}, 1),
            ("write", [Y], {"text": "z"}, 2), ("add", [Y], {"text": " z"}, 2), ("move", [Y, ("z",)], {}, 2),
            ("move", [X, ("w",)], {}, 4), ("remove", [("z",)], {}, 1), ("clear", [("w",)], {}, 2),
            ("remove", [B], {}, 1), ("make", [B], {}, 1), ("make", [("b", "c")], {}, 1), ("clear", [B], {}, 2),
        ):
            with self.subTest(deed=deed, paths=paths):
                getattr(one, deed)(*paths, **texts)
                done += 2 * many + 2
                self.assertEqual(one.steps(), done)

    def test_none_if_the_upper_layer_stays(self):
        one = mount()
        one.write(X, text="x")
        one.power(0)
        one.write(X, text="x")
        one.add(X, text="")
        self.assertEqual(one.steps(), 4)
        self.assertIs(one.is_dark(), False)

    def test_other_numbers_are_no_change(self):
        one = mount()
        one.write(X, text="x")
        one.write(B, text="b")
        self.assertEqual(one.steps(), 4 + 8)
        self.assertEqual(one.upper()[X][1], 1)
        one.write(("c", "x"), text="x")
        self.assertEqual(one.steps(), 4 + 8 + 6)

    def test_what_is_no_deed_takes_no_steps(self):
        one = mount()
        one.make(X)
        one.power(0)
        for call in (one.freeze, one.join, one.twin, one.tree, one.upper, one.below, one.many, one.broken):
            call()
        one.shut(one.opened(B))
        self.assertEqual(one.steps(), 4)
        self.assertIs(one.is_dark(), False)

    def test_what_is_refused_takes_no_steps(self):
        one = mount()
        one.power(0)
        self.assertRaises(NotThere, one.remove, X)
        self.assertEqual(one.steps(), 0)
        self.assertIs(one.is_dark(), False)
        for name in two_letters()[:39]:
            one.power()
            one.make((name,))
        one.power(1)
        self.assertRaises(Full, one.make, X)
        self.assertEqual(one.steps(), 39 * 4)
        self.assertIs(one.is_dark(), False)


class Power(unittest.TestCase):
    def test_no_power(self):
        one = mount()
        one.power(4)
        for at, thing in enumerate(no_numbers()):
            with self.subTest(at=at):
                self.assertRaises(NoPower, one.power, thing)
        one.make(X)
        self.assertRaises(Dark, one.make, Y)
        for at, thing in enumerate(no_numbers()):
            with self.subTest(at=at):
                self.assertRaises(NoPower, one.power, thing)
        self.assertIs(one.is_dark(), True)

    def test_0_999_and_1000(self):
        one = mount()
        for steps in (0, 1, 999, None):
            self.assertIsNone(one.power(steps))
        self.assertIsNone(one.power())
        self.assertIsNone(one.power(steps=5))
        self.assertRaises(NoPower, one.power, 1000)
        self.assertRaises(NoPower, one.power, -1)

    def test_each_step_takes_one(self):
        one = mount()
        one.power(9)
        one.make(X)
        one.make(Y)
        self.assertEqual(one.steps(), 8)
        self.assertRaises(Dark, one.make, ("z",))
        self.assertEqual(one.steps(), 9)

    def test_just_enough(self):
        for deed, paths, texts, many in DEEDS:
            one = mount()
            one.power(2 * many + 2)
            getattr(one, deed)(*paths, **texts)
            self.assertIs(one.is_dark(), False)
            self.assertRaises(Dark, one.make, ("z",))
            self.assertEqual(one.steps(), 2 * many + 2)

    def test_given_anew_it_is_not_added(self):
        one = mount()
        one.power(9)
        one.power(3)
        self.assertRaises(Dark, one.make, X)
        one = mount()
        one.power(3)
        one.power()
        one.make(X)
        self.assertEqual(one.steps(), 4)


class DarkAtEachStep(unittest.TestCase):
    def test_each_step_of_each_deed(self):
        for keep in (True, False):
            for deed, paths, texts, many in DEEDS:
                whole = mount(keep)
                getattr(whole, deed)(*paths, **texts)
                for power in range(whole.steps()):
                    with self.subTest(keep=keep, deed=deed, paths=paths, power=power):
                        self.check(mount(keep), whole, (deed, paths, texts), power)

    def check(self, one, whole, told, power):
        deed, paths, texts = told
        before = views(one)
        handle = one.opened(B)
        one.power(power)
        self.assertRaises(Dark, getattr(one, deed), *paths, **texts)
        self.assertIs(one.is_dark(), True)
        self.assertEqual(one.steps(), power)
        many = (whole.steps() - 2) // 2
        self.assertIsNone(one.mend())
        self.assertEqual(views(one), views(whole) if power > many else before)
        self.assertEqual(one.steps(), power)
        self.assertIs(one.is_dark(), False)
        self.assertRaises(NoHandle, one.text_of, handle)
        one.make(("z",))
        self.assertEqual(one.steps(), power + 4)
        self.assertIs(one.is_dark(), False)

    def test_enough_for_some_deeds_but_not_for_the_next(self):
        one = mount()
        one.power(4 + 6)
        one.make(X)
        one.make(("c", "y"))
        self.assertRaises(Dark, one.make, Y)
        one.mend()
        self.assertEqual(one.steps(), 10)
        self.assertEqual(one.kind(Y), None)
        self.assertEqual(one.kind(("c", "y")), "drawer")


class InTheDark(unittest.TestCase):
    def dark(self, power=0):
        one = mount()
        self.assertEqual(one.opened(B), 0)
        one.power(power)
        self.assertRaises(Dark, one.make, X)
        return one

    def test_each_call_is_refused(self):
        one = self.dark()
        for name, given in (
            ("make", [Y]), ("remove", [B]), ("clear", [B]), ("move", [B, X]), ("tie", [B, X]), ("kind", [B]),
            ("read", [B]), ("listed", [A]), ("tied", [B]), ("tree", []), ("twin", []), ("many", []), ("upper", []),
            ("below", []), ("broken", []), ("freeze", []), ("join", []), ("opened", [B]), ("text_of", [0]),
            ("is_stale", [0]), ("shut", [0]),
        ):
            with self.subTest(name=name):
                self.assertRaises(Dark, getattr(one, name), *given)
        self.assertRaises(Dark, one.write, B, text="")
        self.assertRaises(Dark, one.add, B, text="")
        self.assertEqual(one.steps(), 0)

    def test_dark_comes_first_of_all(self):
        one = self.dark()
        for at, thing in enumerate(no_paths()):
            with self.subTest(at=at):
                for name in (
                    "make", "remove", "clear", "kind", "read", "listed", "tied", "opened", "text_of", "is_stale", "shut",
                ):
                    self.assertRaises(Dark, getattr(one, name), thing)
                self.assertRaises(Dark, one.move, thing, thing)
                self.assertRaises(Dark, one.tie, thing, thing)
                self.assertRaises(Dark, one.write, thing, text=None)
                self.assertRaises(Dark, one.add, thing, text=None)
        for thing in no_texts():
            self.assertRaises(Dark, one.write, X, text=thing)

    def test_freezing_at_4_layers_and_joining_of_41_paths(self):
        wide = {(): S, **{(name,): S for name in two_letters()[:38]}}
        one = Mount([wide, {(): S, X: S}, {(): S}, {(): S}])
        one.power(0)
        self.assertRaises(Full, one.freeze)
        self.assertRaises(Full, one.join)
        self.assertRaises(Dark, one.make, Y)
        self.assertRaises(Dark, one.freeze)
        self.assertRaises(Dark, one.join)

    def test_power_does_not_mend(self):
        for power in (0, 1, 2, 3):
            one = self.dark(power)
            one.power()
            one.power(999)
            self.assertIs(one.is_dark(), True)
            self.assertRaises(Dark, one.make, Y)
            self.assertRaises(Dark, one.tree)
            self.assertEqual(one.steps(), power)
            one.mend()
            self.assertEqual(one.kind(X), "drawer" if power > 1 else None)
            self.assertEqual(one.kind(Y), None)

    def test_mended_the_power_is_without_end(self):
        one = self.dark()
        one.power(1)
        one.mend()
        for name in two_letters()[:30]:
            one.make((name,))
        self.assertEqual(one.steps(), 120)

    def test_mending_at_any_time(self):
        one = mount(False)
        one.write(B, text="new")
        before = views(one)
        self.assertIsNone(one.mend())
        self.assertEqual(views(one), before)
        one.power(1)
        one.mend()
        one.mend()
        one.make(X)
        self.assertEqual(one.steps(), 8)
        self.assertEqual(one.broken(), [B])
        one.mend()
        self.assertEqual(one.kind(X), "drawer")

    def test_what_was_mended_is_not_done_again(self):
        one = mount(False)
        one.power(2)
        self.assertRaises(Dark, one.write, B, text="new")
        one.mend()
        self.assertEqual(one.broken(), [B])
        one.remove(B)
        one.mend()
        self.assertEqual(one.kind(B), None)
        self.assertEqual(one.broken(), [B])
        one.power(0)
        self.assertRaises(Dark, one.write, B, text="last")
        one.mend()
        self.assertEqual(one.kind(B), None)

    def test_handles_are_shut_and_their_numbers_do_not_come_again(self):
        one = self.dark(3)
        one.mend()
        self.assertRaises(NoHandle, one.text_of, 0)
        self.assertEqual(one.opened(B), 1)


class Twins(unittest.TestCase):
    def test_the_power_of_a_twin(self):
        one = mount()
        one.power(7)
        one.make(X)
        two = one.twin()
        self.assertEqual(two.steps(), 4)
        self.assertRaises(Dark, two.make, Y)
        self.assertEqual((one.steps(), two.steps()), (4, 7))
        self.assertEqual((one.is_dark(), two.is_dark()), (False, True))
        one.power()
        one.make(Y)
        two.mend()
        self.assertEqual(two.kind(Y), "drawer")
        self.assertRaises(TreeError, two.make, Y)


if __name__ == "__main__":
    unittest.main()
