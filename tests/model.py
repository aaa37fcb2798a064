"""A house in another way, to compare with: a file is a list with its text, which tied paths share."""

ORDERS = {
    "make": "NoPath Root NoDrawer Taken Full",
    "write": "NoPath NoText Root NoDrawer IsDrawer Full",
    "add": "NoPath NoText NotThere IsDrawer TooLong",
    "remove": "NoPath Root NotThere NotEmpty",
    "clear": "NoPath Root NotThere",
    "move": "NoPath Root NotThere Within NoDrawer Taken TooLong",
    "tie": "NoPath NotThere IsDrawer NoDrawer Taken Full",
    "read": "NoPath NotThere IsDrawer",
    "listed": "NoPath NotThere NoDrawer",
    "tied": "NoPath NotThere IsDrawer",
}
LETTERS = "abcdefghijklmnopqrstuvwxyz"


def a_path(thing):
    return type(thing) is tuple and len(thing) < 6 and all(
        type(name) is str and 0 < len(name) < 5 and not name.strip(LETTERS) for name in thing
    )


def a_text(thing):
    return type(thing) is str and len(thing) < 41 and set(thing) <= set(LETTERS + " ")


class Model:
    def __init__(self, tree):
        files = {thing[1]: [thing[2]] for thing in tree.values() if thing[0] == "file"}
        self.at = {path: None if thing[0] == "drawer" else files[thing[1]] for path, thing in tree.items()}

    def drawer(self, path):
        return path in self.at and self.at[path] is None

    def inside(self, path):
        return [other for other in self.at if other[:len(path)] == path]

    def fits(self, deed, path, new, text):
        """The names of all refusals that fit, if the paths are paths and the text is one."""
        last = new if deed in ("move", "tie") else path
        found = []
        if path == () or (deed == "move" and new == ()):
            found.append("Root")
        if path not in self.at:
            found.append("NotThere")
        if deed == "listed" and path in self.at and not self.drawer(path):
            found.append("NoDrawer")
        if deed != "listed" and last and not self.drawer(last[:-1]):
            found.append("NoDrawer")
        if self.drawer(path):
            found.append("IsDrawer")
        if last in self.at:
            found.append("Taken")
        if len(self.at) > 79 and last not in self.at:
            found.append("Full")
        if len(self.inside(path)) > 1:
            found.append("NotEmpty")
        if deed == "move":
            if len(new) > len(path) and new[:len(path)] == path:
                found.append("Within")
            if any(len(new) + len(other) - len(path) > 5 for other in self.inside(path)):
                found.append("TooLong")
        if deed == "add" and self.at.get(path) is not None and len(self.at[path][0] + text) > 40:
            found.append("TooLong")
        return found

    def refusal(self, deed, path, new=None, text=None):
        """The refusal that is to be told, or None."""
        order = ORDERS[deed].split()
        two = deed in ("move", "tie")
        if not a_path(path) or (two and not a_path(new)):
            return "NoPath"
        if deed in ("write", "add") and not a_text(text):
            return "NoText"
        found = self.fits(deed, path, new, text)
        return next((name for name in order if name in found), None)

    def do(self, deed, path, new=None, text=None):
        """Do a deed that is not to be refused."""
        if deed == "make":
            self.at[path] = None
        elif deed == "write":
            self.at.setdefault(path, [""])[0] = text
        elif deed == "add":
            self.at[path][0] += text
        elif deed in ("remove", "clear"):
            for other in self.inside(path):
                del self.at[other]
        elif deed == "move":
            for other in self.inside(path):
                self.at[new + other[len(path):]] = self.at.pop(other)
        else:
            self.at[new] = self.at[path]

    def told(self, view, path):
        """What a view tells that is not to be refused."""
        if view == "read":
            return self.at[path][0]
        if view == "listed":
            return sorted(other[-1] for other in self.at if other and other[:-1] == path)
        return sorted(other for other, what in self.at.items() if what is self.at[path])

    def tree(self):
        seen = []
        found = {}
        for path in sorted(self.at):
            what = self.at[path]
            if what is None:
                found[path] = ("drawer",)
                continue
            if not any(what is one for one in seen):
                seen.append(what)
            found[path] = ("file", [one is what for one in seen].index(True), what[0])
        return found
