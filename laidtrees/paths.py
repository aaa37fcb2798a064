"""Names, paths and texts, and how paths lie to one another."""

from laidtrees.errors import NoPath, NoText

LETTERS = "abcdefghijklmnopqrstuvwxyz"
SIGNS = "abcdefghijklmnopqrstuvwxyz "
MOST_LETTERS = 4
MOST_NAMES = 5
MOST_SIGNS = 40


def is_name(thing):
    """Tell whether a thing is a name: 1 to 4 letters a to z."""
    if not isinstance(thing, str) or not 1 <= len(thing) <= MOST_LETTERS:
        return False
    return all(letter in LETTERS for letter in thing)


def is_path(thing):
    """Tell whether a thing is a path: a tuple of up to 5 names."""
    if not isinstance(thing, tuple) or len(thing) > MOST_NAMES:
        return False
    return all(is_name(name) for name in thing)


def is_text(thing):
    """Tell whether a thing is a text: up to 40 letters a to z and blanks."""
    if not isinstance(thing, str) or len(thing) > MOST_SIGNS:
        return False
    return all(sign in SIGNS for sign in thing)


def check_path(thing):
    """Refuse with NoPath what is no path."""
    if not is_path(thing):
        raise NoPath("a path is a tuple of up to 5 names of 1 to 4 letters a to z")


def check_text(thing):
    """Refuse with NoText what is no text."""
    if not is_text(thing):
        raise NoText("a text has up to 40 letters a to z and blanks")


def above(path):
    """The path above a path; None of the root."""
    check_path(path)
    return path[:-1] if path else None


def begins_with(path, other):
    """Tell whether a path is another one, or is within it."""
    return path[:len(other)] == other


def is_within(path, other):
    """Tell whether a path begins with the names of another one, and has more."""
    check_path(path)
    check_path(other)
    return path != other and begins_with(path, other)


def beginnings(path):
    """The list of all paths that a path begins with, from the root to itself."""
    check_path(path)
    return [path[:many] for many in range(len(path) + 1)]
