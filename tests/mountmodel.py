"""A mount in another way, to compare with: a file of the upper layer is a list with its text, which paths share."""

from drawn import D, stacked
from model import Model

S, G = ("drawer", False), ("gone",)


def is_cell(entry):
    return isinstance(entry, list)


class Under:
    """What is known of a file of the stack below: all paths of one have the same one of these."""

    def __init__(self, text):
        self.text = text
        self.touched = 0


class MountModel:
    """No power is spent here: that is done by steps_of and by who compares."""

    def __init__(self, stack, keep):
        self.keep = keep
        self.torn = []
        self.handles = {}
        self.next = 0
        self.lie_over(stack)

    def lie_over(self, stack):
        self.stack = stack
        files = {}
        self.base = {}
        for path, thing in stacked(stack).items():
            self.base[path] = D if thing == D else files.setdefault(thing[1], Under(thing[2]))
        self.upper = {(): S}
        self.handles = {}

    def at(self, path):
        """What is shown at a path: a drawer, a cell, what is known of a file below, or None."""
        if path in self.upper:
            entry = self.upper[path]
            return D if entry[0] == "drawer" else None if entry == G else entry
        for many in range(len(path)):
            if self.upper.get(path[:many], S) != S:
                return None
        return self.base.get(path)

    def all(self):
        found = {path: self.at(path) for path in sorted({**self.base, **self.upper})}
        return {path: thing for path, thing in found.items() if thing is not None}

    def tree(self):
        order = []
        found = {}
        for path, thing in self.all().items():
            if thing == D:
                found[path] = D
                continue
            if not any(thing is one for one in order):
                order.append(thing)
            text = thing[0] if is_cell(thing) else thing.text
            found[path] = ("file", [one is thing for one in order].index(True), text)
        return found

    def house(self):
        return Model(self.tree())

    def layer(self):
        order = []
        found = {}
        for path in sorted(self.upper):
            entry = self.upper[path]
            if is_cell(entry):
                if not any(entry is one for one in order):
                    order.append(entry)
                entry = ("file", [one is entry for one in order].index(True), entry[0])
            found[path] = entry
        return found

    def put(self, path, entry):
        for many in range(len(path)):
            if path[:many] not in self.upper:
                self.upper[path[:many]] = S
        self.upper[path] = entry

    def take_up(self, paths):
        torn = []
        things = self.all()
        for under in {id(things[path]): things[path] for path in paths if isinstance(things[path], Under)}.values():
            tied = [path for path, thing in things.items() if thing is under]
            mine = tied if self.keep else [path for path in tied if path in paths]
            cell = [under.text]
            under.touched += 1
            for path in mine:
                self.put(path, cell)
            if len(mine) != len(tied):
                torn += mine
        self.torn = self.torn + sorted(torn)

    def away(self, path):
        self.upper = {other: entry for other, entry in self.upper.items() if other[:len(path)] != path}
        if self.at(path) is not None:
            self.put(path, G)

    def do(self, deed, path, new=None, text=None):
        if deed == "make":
            self.put(path, ("drawer", self.upper.get(path) == G))
        elif deed == "write" and self.at(path) is None:
            self.put(path, [text])
        elif deed in ("write", "add"):
            self.take_up([path])
            self.upper[path][0] = text if deed == "write" else self.upper[path][0] + text
        elif deed in ("remove", "clear"):
            self.away(path)
        elif deed == "tie":
            self.take_up([path])
            self.put(new, self.upper[path])
        else:
            inside = [other for other in self.all() if other[:len(path)] == path]
            self.take_up(inside)
            for other in inside:
                place = new + other[len(path):]
                gone = other == path and self.upper.get(place) == G
                self.put(place, self.upper[other] if self.at(other) != D else ("drawer", gone))
            self.away(path)

    def twin(self):
        other = MountModel(self.stack, self.keep)
        cells = {id(cell): list(cell) for cell in [*self.upper.values(), *self.cells()] if is_cell(cell)}
        unders = {}
        for path, thing in self.base.items():
            if thing != D:
                unders[id(thing)] = other.base[path]
                other.base[path].touched = thing.touched
        other.upper = {path: cells.get(id(entry), entry) for path, entry in self.upper.items()}
        other.torn = list(self.torn)
        other.next = self.next
        other.handles = {
            handle: (cells[id(what)] if is_cell(what) else unders[id(what)], then)
            for handle, (what, then) in self.handles.items()
        }
        return other

    def cells(self):
        return [what for what, _ in self.handles.values() if is_cell(what)]

    def opened(self, path):
        thing = self.at(path)
        self.handles[self.next] = (thing, None if is_cell(thing) else thing.touched)
        self.next += 1
        return self.next - 1

    def text_of(self, handle):
        what, _ = self.handles[handle]
        return what[0] if is_cell(what) else what.text

    def is_stale(self, handle):
        what, then = self.handles[handle]
        return not is_cell(what) and what.touched > then


def steps_of(before, after):
    """How many steps lead from one upper layer to another one."""
    def plainly(layer):
        return {path: entry[:1] + entry[2:] if entry[0] == "file" else entry for path, entry in layer.items()}
    one, two = plainly(before), plainly(after)
    many = sum(one.get(path) != two.get(path) for path in {**one, **two})
    return 2 * many + 2 if many else 0
