"""Trees: dicts that have a drawer or a file to each path."""

from laidtrees.errors import NoDrawer, NoTree, NotThere
from laidtrees.paths import above, check_path, is_path, is_text

DRAWER = ("drawer",)
MOST_PATHS = 80
LAST_NUMBER = 999


def is_number(thing):
    """Tell whether a thing is a whole number from 0 to 999."""
    if not isinstance(thing, int) or isinstance(thing, bool):
        return False
    return 0 <= thing <= LAST_NUMBER


def is_kind(thing, word, many):
    """Tell whether a thing is a tuple of so many things, the first of them a word."""
    if not isinstance(thing, tuple) or len(thing) != many:
        return False
    # Things of some kinds cannot be compared: only a text is.
    return isinstance(thing[0], str) and thing[0] == word


def is_drawer(thing):
    """Tell whether a thing is a drawer, as a tree has it."""
    return is_kind(thing, "drawer", 1)


def is_file(thing):
    """Tell whether a thing is a file, as a tree has it."""
    return is_kind(thing, "file", 3) and is_number(thing[1]) and is_text(thing[2])


def has_drawers_above(tree):
    """Tell whether a tree, or a layer, has a drawer at the root and above each path."""
    tops = [()] + [above(path) for path in tree if path]
    return all(top in tree and tree[top][0] == "drawer" for top in tops)


def has_one_text_each(things):
    """Tell whether all files of one number have one text."""
    texts = {}
    for thing in things:
        if is_file(thing) and texts.setdefault(thing[1], thing[2]) != thing[2]:
            return False
    return True


def is_tree(thing):
    """Tell whether a thing is a tree."""
    if not isinstance(thing, dict) or len(thing) > MOST_PATHS:
        return False
    if not all(is_path(path) for path in thing):
        return False
    things = list(thing.values())
    if not all(is_drawer(what) or is_file(what) for what in things):
        return False
    return has_drawers_above(thing) and has_one_text_each(things)


def check_tree(thing):
    """Refuse with NoTree what is no tree."""
    if not is_tree(thing):
        raise NoTree("this is no tree")


def renumbered(tree):
    """A tree, or a layer, in rising order, its files numbered by their first paths, whatever numbers they had."""
    numbers = {}
    found = {}
    for path in sorted(tree):
        thing = tree[path]
        if thing[0] == "file":
            number = numbers.setdefault(thing[1], len(numbers))
            thing = ("file", number, thing[2])
        found[path] = thing
    return found


def plain(tree):
    """The plain tree like a tree: its files are numbered by their first paths."""
    check_tree(tree)
    return renumbered(tree)


def alike(tree, other):
    """Tell whether two trees have the same paths, drawers, texts and ties."""
    return plain(tree) == plain(other)


def names_in(tree, path):
    """The rising list of the names in a drawer of a tree."""
    check_tree(tree)
    check_path(path)
    if path not in tree:
        raise NotThere("nothing is at this path")
    if tree[path][0] != "drawer":
        raise NoDrawer("a file is at this path")
    return sorted([other[-1] for other in tree if above(other) == path])


def ties(tree):
    """The rising list of the rising lists of paths of each file with two or more."""
    check_tree(tree)
    paths = {}
    for path in sorted(tree):
        thing = tree[path]
        if thing[0] == "file":
            paths.setdefault(thing[1], []).append(path)
    return sorted([tied for tied in paths.values() if len(tied) > 1])
