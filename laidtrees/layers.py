"""Layers: what lies over a tree, and what is seen then."""

from laidtrees.errors import Full, NoLayer, NoStack
from laidtrees.paths import beginnings, check_path, is_path
from laidtrees.trees import (
    DRAWER, MOST_PATHS, check_tree, has_drawers_above, has_one_text_each, is_file, is_kind, renumbered,
)

SEE_THROUGH = ("drawer", False)
GONE = ("gone",)
MOST_ENTRIES = 40
MOST_LAYERS = 4


def _is_entry(thing):
    if is_kind(thing, "drawer", 2):
        return isinstance(thing[1], bool)
    return is_kind(thing, "gone", 1) or is_file(thing)


def is_layer(thing):
    """Tell whether a thing is a layer."""
    if not isinstance(thing, dict) or len(thing) > MOST_ENTRIES:
        return False
    if not all(is_path(path) for path in thing):
        return False
    entries = list(thing.values())
    if not all(_is_entry(entry) for entry in entries):
        return False
    return has_drawers_above(thing) and has_one_text_each(entries)


def is_stack(thing):
    """Tell whether a thing is a stack: a list of 1 to 4 layers."""
    if not isinstance(thing, list) or not 1 <= len(thing) <= MOST_LAYERS:
        return False
    return all(is_layer(layer) for layer in thing)


def check_layer(thing):
    """Refuse with NoLayer what is no layer."""
    if not is_layer(thing):
        raise NoLayer("this is no layer")


def check_stack(thing):
    """Refuse with NoStack what is no stack."""
    if not is_stack(thing):
        raise NoStack("a stack is a list of 1 to 4 layers")


def put_entry(layer, path, entry):
    """Put an entry in a layer, and see-through drawers above it where it has nothing."""
    for top in beginnings(path):
        layer.setdefault(top, SEE_THROUGH)
    layer[path] = entry


def apart(thing):
    """A thing from below, with a number below 0, which no file above it has."""
    return ("file", -1 - thing[1], thing[2]) if thing[0] == "file" else thing


def longest(layer, path):
    """The longest path with an entry in a layer that a path begins with."""
    return [top for top in beginnings(path) if top in layer][-1]


def lets_through(layer, path):
    """Tell whether a path that has an entry is a drawer that does not cover, and so are all above it."""
    return all(layer[top] == SEE_THROUGH for top in beginnings(path))


def _as_seen(entry):
    return DRAWER if entry[0] == "drawer" else entry


def laid_over(layer, tree):
    """The plain tree that a layer shows over a tree, however many paths it has."""
    found = {path: _as_seen(entry) for path, entry in layer.items() if entry != GONE}
    # Where the tree has a path it has drawers above it, so a drawer that lets through is open there.
    for path, thing in tree.items():
        if path not in layer and lets_through(layer, longest(layer, path)):
            found[path] = apart(thing)
    return renumbered(found)


def _with_room(tree):
    if len(tree) > MOST_PATHS:
        raise Full("more than 80 paths would be shown")
    return tree


def shown(layer, tree):
    """The plain tree that a layer shows over a tree."""
    check_layer(layer)
    check_tree(tree)
    return _with_room(laid_over(layer, tree))


def laid(stack):
    """The plain tree that a stack shows."""
    check_stack(stack)
    tree = {(): DRAWER}
    for layer in reversed(stack):
        tree = _with_room(laid_over(layer, tree))
    return tree


def _as_looked_at(entry):
    if entry == GONE:
        return None
    return ("file", entry[2]) if entry[0] == "file" else DRAWER


def look(stack, path):
    """What a stack shows at a path, looked at from above: a drawer, a file with its text, or None."""
    check_stack(stack)
    check_path(path)
    for layer in stack:
        if path in layer:
            return _as_looked_at(layer[path])
        if not lets_through(layer, longest(layer, path)):
            return None
    return None


def open_drawers(layer, tree):
    """The rising list of the paths of a layer's drawers that are open over a tree."""
    check_layer(layer)
    check_tree(tree)
    drawers = [path for path, thing in tree.items() if thing == DRAWER and path in layer]
    return sorted([path for path in drawers if lets_through(layer, path)])
