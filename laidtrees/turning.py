"""Layers between trees: from one to another, two put together, and where two part."""

from laidtrees.errors import Full
from laidtrees.layers import (
    GONE, MOST_ENTRIES, SEE_THROUGH, apart, check_layer, laid_over, lets_through, longest, put_entry,
)
from laidtrees.paths import LETTERS, MOST_NAMES, beginnings
from laidtrees.trees import DRAWER, check_tree, renumbered


def _check_few(one, other):
    if len(one) + len(other) > MOST_ENTRIES:
        raise Full("there are more than 40 paths together")


def _groups(tree):
    """The paths of each file of a tree, rising, by its number; the file with the first path comes first."""
    found = {}
    for path in sorted(tree):
        if tree[path][0] == "file":
            found.setdefault(tree[path][1], []).append(path)
    return found


def _source(paths, tree, text):
    """The number of the one file of a tree that is at all of these paths and has a text; else None."""
    things = [tree[path] for path in paths if path in tree]
    if len(things) < len(paths) or things[0][0] != "file" or things[0][2] != text:
        return None
    return things[0][1] if all(thing == things[0] for thing in things) else None


def _left_below(tree, other):
    """The paths of another tree's files that can be seen from a tree, each of its files as one file only."""
    best = {}
    for paths in _groups(other).values():
        number = _source(paths, tree, other[paths[0]][2])
        # The one with the most paths stays below: so the fewest entries are needed.
        if number is not None and len(paths) > len(best.get(number, [])):
            best[number] = paths
    return {path: True for paths in best.values() for path in paths}


def layer_to(tree, other):
    """A layer that covers nowhere, has no entry too much, and shows another tree over a tree."""
    check_tree(tree)
    check_tree(other)
    _check_few(tree, other)
    below = _left_below(tree, other)
    layer = {(): SEE_THROUGH}
    for path, thing in other.items():
        if thing == DRAWER and tree.get(path) != DRAWER:
            put_entry(layer, path, SEE_THROUGH)
        if thing != DRAWER and path not in below:
            put_entry(layer, path, thing)
    for path in tree:
        # Below the first path that is gone, and where a file is put, nothing is seen.
        if path not in other and other.get(path[:-1]) == DRAWER:
            put_entry(layer, path, GONE)
    return renumbered(layer)


def _over(upper, lower, path):
    """The entry of an upper layer at a path, where another one lies right below it."""
    # What the lower layer hides stays hidden below a drawer that the upper one puts there.
    if upper[path] == SEE_THROUGH and lower.get(path, SEE_THROUGH) != SEE_THROUGH:
        return ("drawer", True)
    return upper[path]


def together(upper, lower):
    """The layer that shows over each tree what the upper one shows over what the lower one shows."""
    check_layer(upper)
    check_layer(lower)
    _check_few(upper, lower)
    found = {path: _over(upper, lower, path) for path in upper}
    for path, entry in lower.items():
        if path not in upper and lets_through(upper, longest(upper, path)):
            found[path] = apart(entry)
    return renumbered(found)


def _fresh(paths, path):
    """A path right within a path that is none of these paths."""
    names = [first + second for first in LETTERS for second in LETTERS]
    return [path + (name,) for name in names if path + (name,) not in paths][0]


def _places(layer, other):
    """Paths, rising, one of each way in which two layers let a tree be seen or hide it."""
    paths = {path: True for path in [*layer, *other]}
    new = [_fresh(paths, path) for path in paths if len(path) < MOST_NAMES]
    return sorted([*paths, *new])


def parting(layer, other):
    """None, if two layers are the same over all trees, else a tree over which they part."""
    check_layer(layer)
    check_layer(other)
    # Where both hide the tree, or just one does and has something there, the root alone is enough to tell them
    # apart; where just one hides it and has nothing there, a drawer is needed there.
    for path in _places(layer, other):
        tree = {top: DRAWER for top in beginnings(path)}
        if laid_over(layer, tree) != laid_over(other, tree):
            return tree
    return None
