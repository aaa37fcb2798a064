"""Things of many kinds, to be handed in where they do not belong."""


class Odd:
    """A thing that cannot be compared, hashed or shown."""

    def __eq__(self, other):
        raise RuntimeError("compared")

    def __hash__(self):
        raise RuntimeError("hashed")

    def __repr__(self):
        raise RuntimeError("shown")

    def __bool__(self):
        raise RuntimeError("tested")


def endless():
    row = []
    row.append(row)
    return row


def deep():
    row = ()
    for _ in range(50000):
        row = (row,)
    return row


def anything():
    """Things that are no name, no path, no text, no tree and no number."""
    return [
        None, True, False, -1, 1000, 10 ** 50, b"", b"a", [], ["a"], [("a",)], set(), {"a"}, frozenset({"a"}),
        (None,), (True,), (1,), ("a", 1), ("a", None), (("a",),), ("a", ("b",)), ([],), ({},), ({"a"},),
        {"a": 1}, {(): None}, {("a",): ("drawer",)}, {None: ("drawer",)}, {1: ("file", 0, "")},
        object(), object, int, str, len, anything, range(3), iter(()), Ellipsis, NotImplemented,
        endless(), (endless(),), deep(), Odd(), (Odd(),), [Odd()], {(): Odd()}, "A", "\u00e4", "a\n", "a.", "1",
        "a" * 41, "a" * 100000, ("a",) * 100000, bytearray(b"a"), memoryview(b"a"), ValueError("a"),
    ]


def no_names():
    return anything() + ["", "abcde", "a b", " ", "aB", "a1", 0, 1, (), ("a",), {}]


def no_paths():
    return anything() + [
        "", "a", "ab", " ", 0, 1, {}, ("",), ("abcde",), ("a", ""), ("a", "B"), ("a b",), (" ",), ("a/b",),
        ("a",) * 6, ("a",) * 5 + ("",), ["a", "b"], (b"a",), ("\u00e4",), ("a\n",), (None,) * 6,
    ]


def no_texts():
    return anything() + [0, 1, (), ("a",), {}, "a" * 41, " " * 41, "a\tb", "a-b", "A", "a\u00a0b", "|", "a\nb"]


def no_trees():
    """Things that are no trees; those of many kinds, and dicts that are nearly trees."""
    return [thing for thing in anything() if thing is not None] + nearly_trees() + [
        "", "a", 0, 1, (), ("a",), {}, [((), ("drawer",))],
    ]


def nearly_trees():
    root = {(): ("drawer",)}
    wrong = [
        None, True, 0, "drawer", "file", b"drawer", ("drawer"), ["drawer"], (), ("drawer", False), ("drawer", True),
        ("gone",), ("file",), ("file", 0), ("file", 0, "a", "b"), ("file", "a", 0), ["file", 0, "a"],
        ("file", True, "a"), ("file", False, "a"), ("file", -1, "a"), ("file", 1000, "a"), ("file", None, "a"),
        ("file", "0", "a"), ("file", 0, None), ("file", 0, "A"), ("file", 0, "a" * 41), ("file", 0, b"a"),
        ("file", 0, 0), ("file", 0, True), ("file", (0,), "a"), ("file", [], "a"), ("file", 0, []), ("Drawer",),
        (None,), (True,), (b"drawer",), (["drawer"],), Odd(),
        (Odd(),), (Odd(), 0, "a"), ("file", Odd(), "a"), ("file", 0, Odd()),
        {"drawer": 1}, {"drawer"}, object(), deep(), endless(),
    ]
    keys = [
        None, True, 0, "", "a", b"a", "()", ("",), ("abcde",), ("A",), ("a", ""), (1,), (True,), (None,), ((),),
        (("a",),), frozenset(), ("a",) * 6, object(), len,
    ]
    found = [{(): thing} for thing in wrong]
    found += [{**root, ("a",): thing} for thing in wrong]
    found += [{**root, key: ("drawer",)} for key in keys]
    found += [{key: ("drawer",)} for key in keys]
    found += [
        {},
        {(): ("file", 0, "a")},
        {("a",): ("drawer",)},
        {("a",): ("file", 0, "")},
        {**root, ("a", "b"): ("drawer",)},
        {**root, ("a",): ("file", 0, ""), ("a", "b"): ("drawer",)},
        {**root, ("a",): ("file", 0, ""), ("a", "b"): ("file", 0, "")},
        {**root, ("a",): ("drawer",), ("a", "b", "c"): ("file", 0, "")},
        {**root, ("a",): ("file", 0, "a"), ("b",): ("file", 0, "b")},
        {**root, ("a",): ("file", 999, ""), ("b",): ("file", 3, ""), ("c",): ("file", 999, " ")},
        wide(81),
    ]
    return found


def two_letters():
    letters = "abcdefghijklmnopqrstuvwxyz"
    return [first + second for first in letters for second in letters]


def wide(many):
    """A tree of so many paths, all of them empty drawers right below the root."""
    return {(): ("drawer",), **{(name,): ("drawer",) for name in two_letters()[:many - 1]}}


def no_layers():
    """Things that are no layers; those of many kinds, and dicts that are nearly layers."""
    return anything() + nearly_layers() + ["", "a", 0, 1, (), ("a",), {}, [((), ("drawer", False))]]


def nearly_layers():
    root = {(): ("drawer", False)}
    wrong = [
        None, True, False, 0, "drawer", "gone", b"gone", ["gone"], ["drawer", True], (), ("drawer",), ("gone", False),
        ("drawer", 0), ("drawer", 1), ("drawer", None), ("drawer", "True"), ("drawer", ()), ("drawer", []),
        ("drawer", Odd()), ("drawer", False, False), ("drawer", True, 0), ("Drawer", False), ("open", False),
        ("gone", ""), ("gone", 0, ""), ("Gone",), ("file",), ("file", 0), ("file", False), ("file", 0, "a", "b"),
        ["file", 0, "a"], ("file", True, "a"), ("file", False, "a"), ("file", -1, "a"), ("file", 1000, "a"),
        ("file", None, "a"), ("file", "0", "a"), ("file", 0, None), ("file", 0, "A"), ("file", 0, "a" * 41),
        ("file", 0, b"a"), ("file", 0, 0), ("file", 0, True), ("file", [], "a"), ("file", 0, []), (None,), (True,),
        (b"gone",), (Odd(),), (Odd(), False), (["drawer"], False), ("file", Odd(), "a"), ("file", 0, Odd()), Odd(),
        {"gone": 1}, {"gone"}, object(), deep(), endless(),
    ]
    keys = [
        None, True, 0, "", "a", b"a", "()", ("",), ("abcde",), ("A",), ("a", ""), (1,), (True,), (None,), ((),),
        (("a",),), frozenset(), ("a",) * 6, object(), len,
    ]
    found = [{(): thing} for thing in wrong]
    found += [{**root, ("a",): thing} for thing in wrong]
    found += [{**root, key: ("drawer", False)} for key in keys]
    found += [{key: ("drawer", False)} for key in keys]
    found += [
        {},
        {(): ("gone",)},
        {(): ("file", 0, "")},
        {(): ("drawer",)},
        {("a",): ("drawer", False)},
        {("a",): ("gone",)},
        {**root, ("a", "b"): ("drawer", False)},
        {**root, ("a", "b"): ("gone",)},
        {**root, ("a",): ("gone",), ("a", "b"): ("gone",)},
        {**root, ("a",): ("gone",), ("a", "b"): ("drawer", False)},
        {**root, ("a",): ("file", 0, ""), ("a", "b"): ("gone",)},
        {**root, ("a",): ("file", 0, ""), ("a", "b"): ("file", 0, "")},
        {**root, ("a",): ("drawer", True), ("a", "b", "c"): ("file", 0, "")},
        {**root, ("a",): ("file", 0, "a"), ("b",): ("file", 0, "b")},
        {**root, ("a",): ("file", 999, ""), ("b",): ("file", 3, ""), ("c",): ("file", 999, " ")},
        wide_layer(41),
    ]
    return found


def wide_layer(many, entry=("drawer", False), top=()):
    """A layer of so many paths; right below a drawer they all have one entry."""
    tops = {top[:long]: ("drawer", False) for long in range(len(top) + 1)}
    return {**tops, **{top + (name,): entry for name in two_letters()[:many - len(tops)]}}


def no_stacks():
    root = {(): ("drawer", False)}
    return anything() + [thing for thing in nearly_layers()] + [
        "", 0, 1, (), {}, root, (root,), {0: root}, [root] * 5, [root] * 100000, [[root]], [(root,)],
        [root, None], [None, root], [root, root, root, {}], [root, wide_layer(41)], [{}], [{}, root], [root, []],
        [root, {(): ("drawer",)}],
    ] + [[thing] for thing in no_layers()]


def no_numbers():
    """Things that are no whole numbers from 0 to 999, but None."""
    return [thing for thing in anything() if thing is not None] + [
        "", "0", (), {}, (0,), [0], "None", b"0", 1001, -2, 2 ** 70,
    ]
