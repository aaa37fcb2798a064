"""Drafts: an upper layer as it is to be behind a deed."""

from laidtrees.layers import GONE, laid_over, put_entry
from laidtrees.paths import begins_with
from laidtrees.trees import DRAWER


def _of_file(things, number):
    return [path for path, thing in things.items() if thing[0] == "file" and thing[1] == number]


class Draft:
    """The entries of an upper layer, changed aside; what is done to them has been found right before."""

    def __init__(self, entries, base, keep, files):
        self.entries = {path: entry for path, entry in entries.items()}
        # How many files have come so far: no number comes twice, so a handle knows its file by it.
        self.files = files
        self.torn = []
        self.taken = {}
        self._base = base
        self._keep = keep
        self._tree = laid_over(entries, base)

    def make(self, path):
        """Put a drawer where nothing is."""
        put_entry(self.entries, path, ("drawer", self._is_gone(path)))

    def give(self, path, text):
        """Give the file at a path a text, or put a new file where nothing is."""
        if path in self._tree:
            self._take_up([path])
        else:
            put_entry(self.entries, path, self._new_file(text))
        number = self.entries[path][1]
        paths = _of_file(self.entries, number)
        for other in paths:
            self.entries[other] = ("file", number, text)

    def tie(self, old, new):
        """Put the file that is at a path at another one too."""
        self._take_up([old])
        put_entry(self.entries, new, self.entries[old])

    def move(self, old, new):
        """Take a path, and all within it, to another path."""
        moved = [path for path in self._tree if begins_with(path, old)]
        self._take_up([path for path in moved if self._tree[path] != DRAWER])
        covers = self._is_gone(new)
        for path in moved:
            drawer = ("drawer", covers and path == old)
            entry = drawer if self._tree[path] == DRAWER else self.entries[path]
            put_entry(self.entries, new + path[len(old):], entry)
        self.take_away(old)

    def take_away(self, path):
        """Take away a path and all within it."""
        self.entries = {other: entry for other, entry in self.entries.items() if not begins_with(other, path)}
        if path in laid_over(self.entries, self._base):
            put_entry(self.entries, path, GONE)

    def changes(self, entries):
        """How many paths have another entry here than there."""
        # A file never gets another number here, so what is another entry is so but for numbers, too.
        paths = sorted(set(entries) | set(self.entries))
        return len([path for path in paths if entries.get(path) != self.entries.get(path)])

    def _is_gone(self, path):
        return self.entries.get(path) == GONE

    def _new_file(self, text):
        self.files += 1
        return ("file", self.files, text)

    def _take_up(self, paths):
        files = {}
        for path in paths:
            if path not in self.entries:
                files.setdefault(self._tree[path][1], []).append(path)
        for number, some in files.items():
            self._take_up_file(_of_file(self._tree, number), some)

    def _take_up_file(self, tied, some):
        chosen = tied if self._keep else some
        thing = self._base[chosen[0]]
        self.taken[thing[1]] = True
        entry = self._new_file(thing[2])
        for path in chosen:
            put_entry(self.entries, path, entry)
        if len(chosen) < len(tied):
            self.torn.extend(chosen)
