"""Mounts: a stack that is never changed, and an upper layer over it that takes all deeds."""

from laidtrees.drafts import Draft
from laidtrees.errors import Dark, Full, NoHandle, NoPower, NoTree
from laidtrees.houses import House
from laidtrees.layers import MOST_ENTRIES, MOST_LAYERS, SEE_THROUGH, check_stack, laid, laid_over
from laidtrees.readers import Reader
from laidtrees.trees import is_number, renumbered
from laidtrees.turning import together


def _copied(stack):
    return [{path: entry for path, entry in layer.items()} for layer in stack]


class Mount:
    """A tree that is changed by deeds while nothing below is; each deed is refused or done as a whole."""

    def __init__(self, stack, *, keep=True):
        check_stack(stack)
        if not isinstance(keep, bool):
            raise NoTree("keep is True or False")
        self._below = _copied(stack)
        self._base = laid(stack)
        self._keep = keep
        self._entries = {(): SEE_THROUGH}
        self._files = 0
        self._torn = []
        self._readers = {}
        self._handles = 0
        self._steps = 0
        self._power = None
        self._dark = False
        self._sealed = None

    def make(self, path):
        """Put a drawer where nothing is."""
        self._house().make(path)
        draft = self._draft()
        draft.make(path)
        self._do(draft)

    def write(self, path, *, text):
        """Give the file at a path a text, or put a new file where nothing is."""
        self._house().write(path, text=text)
        draft = self._draft()
        draft.give(path, text)
        self._do(draft)

    def add(self, path, *, text):
        """Put a text behind the text of the file at a path."""
        house = self._house()
        house.add(path, text=text)
        draft = self._draft()
        draft.give(path, house.read(path))
        self._do(draft)

    def remove(self, path):
        """Take away a path with a file, or an empty drawer."""
        self._house().remove(path)
        self._do_away(path)

    def clear(self, path):
        """Take away a path and all within it."""
        self._house().clear(path)
        self._do_away(path)

    def move(self, old, new):
        """Take a path, and all within it, to another path, where nothing is."""
        self._house().move(old, new)
        draft = self._draft()
        draft.move(old, new)
        self._do(draft)

    def tie(self, old, new):
        """Put the file that is at a path at another one too, where nothing is."""
        self._house().tie(old, new)
        draft = self._draft()
        draft.tie(old, new)
        self._do(draft)

    def kind(self, path):
        """What is at a path: `drawer`, `file` or None."""
        return self._house().kind(path)

    def read(self, path):
        """The text of the file at a path."""
        return self._house().read(path)

    def listed(self, path):
        """The rising list of the names in a drawer."""
        return self._house().listed(path)

    def tied(self, path):
        """The rising list of all paths of the file at a path."""
        return self._house().tied(path)

    def tree(self):
        """The plain tree that is shown."""
        return self._house().tree()

    def many(self):
        """How many paths are shown."""
        return len(self._house())

    def upper(self):
        """The upper layer."""
        self._check_light()
        return renumbered(self._entries)

    def below(self):
        """The stack below."""
        self._check_light()
        return _copied(self._below)

    def broken(self):
        """The list of the paths that were broken off."""
        self._check_light()
        return list(self._torn)

    def freeze(self):
        """Make the upper layer the uppermost of the stack, and lay a new one over it."""
        self._check_light()
        if len(self._below) >= MOST_LAYERS:
            raise Full("the stack has 4 layers")
        self._below = [renumbered(self._entries)] + self._below
        self._base = laid(self._below)
        self._entries = {(): SEE_THROUGH}
        self._readers = {}

    def join(self):
        """Make the stack below one layer."""
        self._check_light()
        if sum([len(layer) for layer in self._below]) > MOST_ENTRIES:
            raise Full("the layers have more than 40 paths together")
        joined = self._below[-1]
        for layer in reversed(self._below[:-1]):
            joined = together(layer, joined)
        self._below = [joined]
        self._readers = {}

    def opened(self, path):
        """A handle for the file at a path."""
        house = self._house()
        text = house.read(path)
        is_upper = path in self._entries
        thing = self._entries[path] if is_upper else self._base[path]
        handle = self._handles
        self._readers[handle] = Reader(thing[1], text, is_upper)
        self._handles += 1
        return handle

    def text_of(self, handle):
        """The text that a handle reads."""
        return self._reader(handle).text

    def is_stale(self, handle):
        """Tell whether a path of the file that a handle reads from below has been taken up."""
        return self._reader(handle).stale

    def shut(self, handle):
        """Shut a handle."""
        self._reader(handle)
        del self._readers[handle]

    def power(self, steps=None):
        """Give power for so many steps; None is without end."""
        if steps is not None and not is_number(steps):
            raise NoPower("power is None or a whole number from 0 to 999")
        self._power = steps

    def steps(self):
        """How many steps were done since the beginning."""
        return self._steps

    def is_dark(self):
        """Tell whether the power is spent and a deed broke off."""
        return self._dark

    def mend(self):
        """Do what was sealed, drop what was not, and go on with power without end."""
        if self._sealed is not None:
            self._settle(self._sealed)
        self._sealed = None
        self._dark = False
        self._power = None
        self._readers = {}

    def twin(self):
        """Another mount that stands just so."""
        self._check_light()
        other = Mount(self._below, keep=self._keep)
        other._entries = {path: entry for path, entry in self._entries.items()}
        other._files = self._files
        other._torn = list(self._torn)
        other._readers = {handle: reader.twin() for handle, reader in self._readers.items()}
        other._handles = self._handles
        other._steps = self._steps
        other._power = self._power
        return other

    def _check_light(self):
        if self._dark:
            raise Dark("the power is spent, and nothing is mended")

    def _house(self):
        # A house with the tree that is shown tells the views, and refuses the deeds.
        self._check_light()
        return House(laid_over(self._entries, self._base))

    def _draft(self):
        return Draft(self._entries, self._base, self._keep, self._files)

    def _reader(self, handle):
        self._check_light()
        if not isinstance(handle, int) or isinstance(handle, bool) or handle not in self._readers:
            raise NoHandle("this is no handle, or it is shut")
        return self._readers[handle]

    def _do_away(self, path):
        draft = self._draft()
        draft.take_away(path)
        self._do(draft)

    def _do(self, draft):
        if len(draft.entries) > MOST_ENTRIES:
            raise Full("the upper layer would have more than 40 paths")
        many = draft.changes(self._entries)
        needed = 2 * many + 2 if many else 0
        if self._power is not None and self._power < needed:
            self._break_off(draft, self._power > many)
        self._steps += needed
        if self._power is not None:
            self._power -= needed
        self._settle(draft)

    def _break_off(self, draft, is_sealed):
        self._steps += self._power
        self._power = 0
        self._dark = True
        self._sealed = draft if is_sealed else None
        raise Dark("the power is spent before the deed is done")

    def _settle(self, draft):
        self._entries = draft.entries
        self._files = draft.files
        self._torn = self._torn + sorted(draft.torn)
        for reader in self._readers.values():
            reader.follow(draft.entries, draft.taken)
