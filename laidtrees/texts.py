"""Layers written as texts, and read back."""

from laidtrees.errors import NoText
from laidtrees.layers import check_layer, is_layer

ENTRIES = {"d": ("drawer", False), "c": ("drawer", True), "g": ("gone",)}
DIGITS = "0123456789"
MOST_DIGITS = 3


def _sign(entry):
    return [sign for sign in ENTRIES if ENTRIES[sign] == entry][0]


def _line(path, entry):
    word = "/" + "/".join(path)
    if entry[0] == "file":
        return f"f {word} {entry[1]} |{entry[2]}|\n"
    return f"{_sign(entry)} {word}\n"


def layer_text(layer):
    """A layer as a text: a line for each path, rising."""
    check_layer(layer)
    return "".join([_line(path, layer[path]) for path in sorted(layer)])


def _path_in(word):
    return () if word == "/" else tuple(word.split("/")[1:])


def _number_in(word):
    is_short = 1 <= len(word) <= MOST_DIGITS
    return int(word) if is_short and all(sign in DIGITS for sign in word) else None


def _read_line(line):
    """The path and the entry that a line may tell; what a line does not tell is seen when it is written again."""
    words = line.split(" ", 3)
    if len(words) == 4:
        return _path_in(words[1]), ("file", _number_in(words[2]), words[3][1:-1])
    if len(words) == 2:
        return _path_in(words[1]), ENTRIES.get(words[0])
    return (), None


def read_layer(text):
    """The layer that a text tells."""
    if not isinstance(text, str):
        raise NoText("this is no text")
    told = [_read_line(line) for line in text.split("\n")[:-1]]
    layer = {path: entry for path, entry in told}
    if not is_layer(layer) or layer_text(layer) != text:
        raise NoText("this is no text of a layer")
    return layer
