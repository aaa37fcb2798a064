import unittest

from laidtrees.errors import Full, IsDrawer, NoHandle, NoPath, NotThere
from laidtrees.mounts import Mount
from things import anything, two_letters, wide_layer

S, G = ("drawer", False), ("gone",)
A, B, X, Y = ("a",), ("b",), ("x",), ("y",)
AF, AG = ("a", "f"), ("a", "g")
LOW = {(): S, A: S, AF: ("file", 0, "one"), AG: ("file", 1, "two"), B: ("file", 0, "one"), ("c",): S}


def mount(keep=True):
    return Mount([LOW], keep=keep)


class Opened(unittest.TestCase):
    def test_numbers(self):
        one = mount()
        self.assertEqual([one.opened(path) for path in (B, B, AF, AG)], [0, 1, 2, 3])
        one.shut(3)
        one.shut(0)
        self.assertEqual(one.opened(B), 4)
        one.freeze()
        self.assertEqual(one.opened(B), 5)
        one.join()
        self.assertEqual(one.opened(B), 6)
        one.mend()
        self.assertEqual(one.opened(B), 7)
        self.assertIs(type(one.opened(B)), int)

    def test_what_is_refused_takes_no_number(self):
        one = mount()
        self.assertRaises(NoPath, one.opened, "b")
        self.assertRaises(NotThere, one.opened, X)
        self.assertRaises(IsDrawer, one.opened, A)
        self.assertRaises(IsDrawer, one.opened, ())
        self.assertEqual(one.opened(B), 0)

    def test_nothing_is_taken_up(self):
        one = mount()
        one.opened(B)
        self.assertEqual(one.upper(), {(): S})
        self.assertEqual(one.steps(), 0)


class NoHandles(unittest.TestCase):
    def test_things_of_many_kinds(self):
        one = mount()
        self.assertEqual([one.opened(B) for _ in range(3)], [0, 1, 2])
        one.shut(1)
        for at, thing in enumerate(anything() + ["", "0", (), {}, 3, 1, 2 ** 70, b"\0", (0,), [0]]):
            for call in (one.text_of, one.is_stale, one.shut):
                with self.subTest(at=at):
                    self.assertRaises(NoHandle, call, thing)
        self.assertEqual(one.text_of(0), "one")
        self.assertEqual(one.text_of(2), "one")

    def test_none_yet(self):
        for call in (mount().text_of, mount().is_stale, mount().shut):
            self.assertRaises(NoHandle, call, 0)

    def test_shut(self):
        one = mount()
        first, second = one.opened(B), one.opened(B)
        self.assertIsNone(one.shut(first))
        for call in (one.text_of, one.is_stale, one.shut):
            self.assertRaises(NoHandle, call, first)
        self.assertEqual(one.text_of(second), "one")

    def test_freezing_joining_and_mending_shut_all(self):
        for deed in ("freeze", "join", "mend"):
            one = mount()
            one.write(X, text="x")
            handles = [one.opened(path) for path in (B, X)]
            getattr(one, deed)()
            for handle in handles:
                for call in (one.text_of, one.is_stale, one.shut):
                    self.assertRaises(NoHandle, call, handle)

    def test_what_is_refused_shuts_none(self):
        one = Mount([LOW] * 4)
        handle = one.opened(B)
        self.assertRaises(Full, one.freeze)
        self.assertEqual(one.text_of(handle), "one")
        one = Mount([LOW, wide_layer(35)])
        handle = one.opened(B)
        self.assertRaises(Full, one.join)
        self.assertEqual(one.text_of(handle), "one")


class Upper(unittest.TestCase):
    """Handles of files that were in the upper layer."""

    def test_they_read_the_text_that_the_file_has(self):
        one = mount()
        one.write(X, text="x")
        handle = one.opened(X)
        self.assertEqual(one.text_of(handle), "x")
        one.write(X, text="y")
        self.assertEqual(one.text_of(handle), "y")
        one.add(X, text="z")
        self.assertEqual(one.text_of(handle), "yz")
        self.assertIs(one.is_stale(handle), False)

    def test_behind_moves_and_ties(self):
        one = mount()
        one.write(("c", "x"), text="x")
        handle = one.opened(("c", "x"))
        one.move(("c",), Y)
        one.write(("y", "x"), text="moved")
        self.assertEqual(one.text_of(handle), "moved")
        one.tie(("y", "x"), X)
        one.clear(Y)
        one.write(X, text="tied")
        self.assertEqual(one.text_of(handle), "tied")
        one.write(("c",), text="another")
        self.assertEqual(one.text_of(handle), "tied")
        self.assertIs(one.is_stale(handle), False)

    def test_the_last_text_when_it_is_gone(self):
        one = mount()
        one.write(X, text="x")
        one.write(Y, text="y")
        handles = [one.opened(X), one.opened(Y)]
        one.write(X, text="last")
        one.remove(X)
        one.write(X, text="another")
        one.write(Y, text="new")
        self.assertEqual([one.text_of(handle) for handle in handles], ["last", "new"])
        self.assertEqual([one.is_stale(handle) for handle in handles], [False, False])
        one.remove(X)
        for many in range(3):
            one.write(X, text="more")
            one.clear(X)
        self.assertEqual(one.text_of(handles[0]), "last")

    def test_what_was_taken_up_before(self):
        for keep in (True, False):
            one = mount(keep)
            one.write(B, text="new")
            handle = one.opened(B)
            one.write(AF, text="more")
            self.assertEqual(one.text_of(handle), "more" if keep else "new")
            self.assertIs(one.is_stale(handle), False)


class Below(unittest.TestCase):
    """Handles of files that were not in the upper layer."""

    def test_they_read_the_text_from_then(self):
        one = mount()
        handle = one.opened(B)
        self.assertEqual(one.text_of(handle), "one")
        self.assertIs(one.is_stale(handle), False)
        one.write(B, text="new")
        self.assertEqual(one.text_of(handle), "one")
        self.assertIs(one.is_stale(handle), True)
        one.remove(B)
        self.assertEqual(one.text_of(handle), "one")
        self.assertIs(one.is_stale(handle), True)

    def test_each_deed_that_takes_up(self):
        for keep in (True, False):
            for deed, paths, texts in (
                ("write", [AF], {"text": "one"}), ("add", [AF], {"text": ""}), ("tie", [AF, X], {}),
                ("move", [AF, X], {}), ("move", [A, X], {}), ("write", [B], {"text": ""}), ("move", [B, X], {}),
            ):
                with self.subTest(keep=keep, deed=deed, paths=paths):
                    one = mount(keep)
                    handle, other = one.opened(B), one.opened(AG)
                    getattr(one, deed)(*paths, **texts)
                    self.assertIs(one.is_stale(handle), True)
                    self.assertIs(one.is_stale(other), paths[0] == A)
                    self.assertEqual((one.text_of(handle), one.text_of(other)), ("one", "two"))

    def test_what_takes_nothing_up(self):
        for keep in (True, False):
            one = mount(keep)
            handle = one.opened(B)
            one.write(AG, text="new")
            one.write(X, text="one")
            one.make(Y)
            one.remove(AF)
            one.move(("c",), ("y", "c"))
            self.assertIs(one.is_stale(handle), False)
            one.clear(A)
            one.remove(B)
            one.write(B, text="another")
            one.write(B, text="other")
            self.assertIs(one.is_stale(handle), False)
            self.assertEqual(one.text_of(handle), "one")

    def test_what_was_broken_off_before_is_another_file(self):
        one = mount(False)
        first = one.opened(AF)
        one.write(AF, text="new")
        second, upper = one.opened(B), one.opened(AF)
        one.write(AF, text="newer")
        self.assertEqual([one.is_stale(handle) for handle in (first, second, upper)], [True, False, False])
        one.write(B, text="last")
        self.assertEqual([one.is_stale(handle) for handle in (first, second, upper)], [True, True, False])
        self.assertEqual([one.text_of(handle) for handle in (first, second, upper)], ["one", "one", "newer"])

    def test_a_refused_deed_makes_nothing_stale(self):
        one = Mount([LOW])
        handle = one.opened(B)
        for name in two_letters()[:37]:
            one.make((name,))
        self.assertRaises(Full, one.write, B, text="")
        self.assertIs(one.is_stale(handle), False)

    def test_frozen_files_are_below(self):
        one = mount()
        one.write(X, text="x")
        one.freeze()
        handle = one.opened(X)
        one.write(X, text="new")
        self.assertEqual(one.text_of(handle), "x")
        self.assertIs(one.is_stale(handle), True)


class Twins(unittest.TestCase):
    def test_handles_of_a_twin(self):
        one = mount()
        one.write(X, text="x")
        upper, below, gone = one.opened(X), one.opened(B), one.opened(AG)
        one.shut(gone)
        two = one.twin()
        self.assertRaises(NoHandle, two.text_of, gone)
        two.write(X, text="two")
        two.write(B, text="two")
        self.assertEqual([one.text_of(upper), two.text_of(upper)], ["x", "two"])
        self.assertEqual([one.is_stale(below), two.is_stale(below)], [False, True])
        three = two.twin()
        self.assertIs(three.is_stale(below), True)
        self.assertIs(three.is_stale(upper), False)
        two.shut(upper)
        one.write(X, text="one")
        self.assertEqual([one.text_of(upper), three.text_of(upper)], ["one", "two"])
        self.assertEqual([one.opened(B), one.opened(B), two.opened(B)], [3, 4, 3])


if __name__ == "__main__":
    unittest.main()
