"""Houses: trees that are changed by deeds."""

from laidtrees.errors import Full, IsDrawer, NoDrawer, NotEmpty, NotThere, Root, Taken, TooLong, Within
from laidtrees.paths import MOST_NAMES, MOST_SIGNS, above, begins_with, check_path, check_text, is_within
from laidtrees.trees import DRAWER, MOST_PATHS, names_in, plain, renumbered


def _check_not_root(path):
    if path == ():
        raise Root("this cannot be done to the root")


def _moved(path, old, new):
    return new + path[len(old):] if begins_with(path, old) else path


class House:
    """A tree of its own, changed by deeds; each deed is refused or done as a whole."""

    def __init__(self, tree=None):
        self._tree = plain({(): DRAWER} if tree is None else tree)

    def make(self, path):
        """Put a drawer where nothing is."""
        check_path(path)
        _check_not_root(path)
        self._check_place(path)
        self._check_room()
        self._put(path, DRAWER)

    def write(self, path, *, text):
        """Give the file at a path a text, or put a new file where nothing is."""
        check_path(path)
        check_text(text)
        _check_not_root(path)
        self._check_above(path)
        if path in self._tree:
            self._give(path, text)
        else:
            self._check_room()
            # The files of a plain tree are fewer than its paths, so this number is free.
            self._put(path, ("file", len(self._tree), text))

    def add(self, path, *, text):
        """Put a text behind the text of the file at a path."""
        check_path(path)
        check_text(text)
        longer = self._file_at(path)[2] + text
        if len(longer) > MOST_SIGNS:
            raise TooLong("the file would have more than 40 signs")
        self._give(path, longer)

    def remove(self, path):
        """Take away a path with a file, or an empty drawer."""
        check_path(path)
        _check_not_root(path)
        self._check_there(path)
        if any(is_within(other, path) for other in self._tree):
            raise NotEmpty("the drawer is not empty")
        self._take_away(path)

    def clear(self, path):
        """Take away a path and all within it."""
        check_path(path)
        _check_not_root(path)
        self._check_there(path)
        self._take_away(path)

    def move(self, old, new):
        """Take a path, and all within it, to another path, where nothing is."""
        check_path(old)
        check_path(new)
        _check_not_root(old)
        _check_not_root(new)
        self._check_there(old)
        if is_within(new, old):
            raise Within("the new path is within the old one")
        self._check_place(new)
        tree = {_moved(path, old, new): thing for path, thing in self._tree.items()}
        if any(len(path) > MOST_NAMES for path in tree):
            raise TooLong("a path would have more than 5 names")
        self._tree = renumbered(tree)

    def tie(self, old, new):
        """Put the file that is at a path at another one too, where nothing is."""
        check_path(old)
        check_path(new)
        thing = self._file_at(old)
        self._check_place(new)
        self._check_room()
        self._put(new, thing)

    def kind(self, path):
        """What is at a path: `drawer`, `file` or None."""
        check_path(path)
        return self._tree[path][0] if path in self._tree else None

    def read(self, path):
        """The text of the file at a path."""
        check_path(path)
        return self._file_at(path)[2]

    def listed(self, path):
        """The rising list of the names in a drawer."""
        return names_in(self._tree, path)

    def tied(self, path):
        """The rising list of all paths of the file at a path."""
        check_path(path)
        number = self._file_at(path)[1]
        return sorted([other for other, thing in self._tree.items() if thing[0] == "file" and thing[1] == number])

    def tree(self):
        """The plain tree of the house, a new one each time."""
        return renumbered(self._tree)

    def twin(self):
        """Another house that stands just so."""
        return House(self._tree)

    def __len__(self):
        return len(self._tree)

    def _check_there(self, path):
        if path not in self._tree:
            raise NotThere("nothing is at this path")

    def _check_above(self, path):
        # No path is above the root, so it lacks no drawer: as a new path it is taken.
        if path and self.kind(above(path)) != "drawer":
            raise NoDrawer("no drawer is at the path above")

    def _check_place(self, path):
        self._check_above(path)
        if path in self._tree:
            raise Taken("something is at this path")

    def _check_room(self):
        if len(self._tree) >= MOST_PATHS:
            raise Full("there would be more than 80 paths")

    def _file_at(self, path):
        self._check_there(path)
        if self._tree[path][0] == "drawer":
            raise IsDrawer("a drawer is at this path")
        return self._tree[path]

    # Whatever changes the tree leaves it plain: the number of a new file counts on that.

    def _put(self, path, thing):
        self._tree[path] = thing
        self._tree = renumbered(self._tree)

    def _give(self, path, text):
        thing = ("file", self._file_at(path)[1], text)
        paths = self.tied(path)
        for other in paths:
            self._tree[other] = thing

    def _take_away(self, path):
        self._tree = renumbered(
            {other: thing for other, thing in self._tree.items() if not begins_with(other, path)}
        )
