"""Drafts: an upper layer as it is to be behind a deed."""

from laidtrees.layers import GONE, laid_over, put_entry
from laidtrees.paths import begins_with
from laidtrees.trees import DRAWER


def but_for_number(entry):
    """An entry of a layer without the number of its file."""
    return ("file", entry[2]) if entry[0] == "file" else entry


def _of_file(things, number):
    return [path for path, thing in things.items() if thing[0] == "file" and thing[1] == number]


class Draft:
    """The entries of an upper layer, changed aside; what is done to them has been found right before."""

    def __init__(self, entries, base, keep, files):
        self.entries = {path: entry for path, entry in entries.items()}
        # How many files have come so far: no number comes twice, so a handle knows its file by it.
        self.files = files
        self.torn = []
        self.taken = {}
        self._base = base
        self._keep = keep
        self._tree = laid_over(entries, base)

    def make(self, path):
        """Put a drawer where nothing is."""
        put_entry(self.entries, path, ("drawer", self._is_gone(path)))

    def give(self, path, text):
        """Give the file at a path a text, or put a new file where nothing is."""
        if path not in self._tree:
            put_entry(self.entries, path, self._new_file(text))
            return
        self._take_up([path])
        number = self.entries[path][1]
        paths = _of_file(self.entries, number)
        for other in paths:
            self.entries[other] = ("file", number, text)

    def tie(self, old, new):
        """Put the file that is at a path at another one too."""
        self._take_up([old])
        put_entry(self.entries, new, self.entries[old])

    def move(self, old, new):
        """Take a path, and all within it, to another path."""
        moved = [path for path in self._tree if begins_with(path, old)]
        self._take_up([path for path in moved if self._tree[path] != DRAWER])
        covers = self._is_gone(new)
        for path in moved:
            drawer = ("drawer", covers and path == old)
            entry = drawer if self._tree[path] == DRAWER else self.entries[path]
            put_entry(self.entries, new + path[len(old):], entry)
        self.take_away(old)

    def take_away(self, path):
        """Take away a path and all within it."""
        self.entries = {other: entry for other, entry in self.entries.items() if not begins_with(other, path)}
        if path in laid_over(self.entries, self._base):
            put_entry(self.entries, path, GONE)

    def changes(self, entries):
        """How many paths have another entry here than there, but for numbers."""
        here = {path: but_for_number(entry) for path, entry in self.entries.items()}
        there = {path: but_for_number(entry) for path, entry in entries.items()}
        return len([path for path in {**here, **there} if here.get(path) != there.get(path)])

    def _is_gone(self, path):
        return self.entries.get(path) == GONE

    def _new_file(self, text):
        self.files += 1
        return ("file", self.files, text)

    def _take_up(self, paths):
        files = {}
        for path in paths:
            if path not in self.entries:
                files.setdefault(self._tree[path][1], []).append(path)
        for number, some in files.items():
            self._take_up_file(_of_file(self._tree, number), some)

    def _take_up_file(self, tied, some):
        chosen = tied if self._keep else some
        thing = self._base[chosen[0]]
        self.taken[thing[1]] = True
        entry = self._new_file(thing[2])
        for path in chosen:
            put_entry(self.entries, path, entry)
        if len(chosen) < len(tied):
            self.torn.extend(chosen)
