import copy
import random
import re
import unittest

from drawn import draw_layer, shuffled
from laidtrees.errors import NoLayer, NoText
from laidtrees.layers import is_layer
from laidtrees.texts import layer_text, read_layer
from things import anything, no_layers, wide_layer

S, C, G = ("drawer", False), ("drawer", True), ("gone",)
LAYER = {
    (): S, ("a",): C, ("a", "b"): ("file", 0, ""), ("a", "b" * 4): ("file", 999, "some text"), ("aa",): G,
    ("b",): ("file", 999, "some text"), ("c",): ("file", 10, " "), ("d",): S, ("d", "e"): S, ("d", "e", "f"): G,
}
TEXT = (
    "d /\nc /a\nf /a/b 0 ||\nf /a/bbbb 999 |some text|\ng /aa\nf /b 999 |some text|\nf /c 10 | |\nd /d\nd /d/e\n"
    "g /d/e/f\n"
)


SIGNS = "\n\t\r |/01fdgcezA.-_+\x00\x0b\u00a0\u00e4\u0661\u00b2\u2028"
LINE = re.compile(
    r"(?:(?P<kind>[dcg]) (?P<path>/|(?:/[a-z]{1,4}){1,5})"
    r"|f (?P<file>/|(?:/[a-z]{1,4}){1,5}) (?P<number>0|[1-9][0-9]{0,2}) \|(?P<text>[a-z ]{0,40})\|)\n"
)


def another_reader(text):
    """The layer that a text tells, or None, line by line by a pattern."""
    lines = [LINE.fullmatch(line) for line in text.splitlines(keepends=True)]
    if not all(lines):
        return None
    layer = {}
    for line in lines:
        path = tuple((line["path"] or line["file"]).strip("/").split("/"))
        path = () if path == ("",) else path
        if layer and path <= max(layer):
            return None
        kinds = {"d": S, "c": C, "g": G}
        layer[path] = kinds[line["kind"]] if line["kind"] else ("file", int(line["number"]), line["text"])
    return layer if is_layer(layer) else None


class LayerText(unittest.TestCase):
    def test_each_kind_of_line(self):
        self.assertEqual(layer_text(LAYER), TEXT)
        self.assertEqual(layer_text({(): S}), "d /\n")
        self.assertEqual(layer_text({(): C}), "c /\n")

    def test_rising_is_that_of_paths(self):
        layer = {(): S, ("a",): S, ("a", "z"): G, ("aa",): G, ("ab",): G}
        self.assertEqual(layer_text(shuffled(random.Random(1), layer)), "d /\nd /a\ng /a/z\ng /aa\ng /ab\n")

    def test_numbers_stay_as_they_are(self):
        layer = {(): S, ("a",): ("file", 7, "x"), ("b",): ("file", 3, "x"), ("c",): ("file", 7, "x")}
        self.assertEqual(layer_text(layer), "d /\nf /a 7 |x|\nf /b 3 |x|\nf /c 7 |x|\n")
        self.assertEqual(read_layer(layer_text(layer)), layer)

    def test_no_layer(self):
        for at, thing in enumerate(no_layers()):
            with self.subTest(at=at):
                self.assertRaises(NoLayer, layer_text, thing)


class ReadLayer(unittest.TestCase):
    def refused(self, text):
        with self.subTest(text=text):
            self.assertRaises(NoText, read_layer, text)

    def test_what_was_written(self):
        self.assertEqual(read_layer(TEXT), LAYER)
        self.assertEqual(read_layer("d /\n"), {(): S})
        read_layer(TEXT).clear()
        self.assertEqual(read_layer(TEXT), LAYER)
        self.assertIs(type(read_layer(TEXT)[("c",)][1]), int)
        self.assertIs(read_layer(TEXT)[("a",)][1], True)

    def test_40_and_41_paths(self):
        for entry in (S, C, G, ("file", 0, "t")):
            layer = wide_layer(40, entry)
            self.assertEqual(read_layer(layer_text(layer)), layer)
            last = layer_text(layer).split("\n")[-2].replace("/bm", "/zz")
            self.refused(layer_text(layer) + last + "\n")

    def test_things_of_many_kinds(self):
        for at, thing in enumerate(anything() + ["", 0, 1, (), {}, TEXT.encode(), [TEXT], (TEXT,), LAYER]):
            with self.subTest(at=at):
                self.assertRaises(NoText, read_layer, thing)

    def test_a_sign_too_few(self):
        for at in range(len(TEXT)):
            self.check(TEXT[:at] + TEXT[at + 1:])

    def test_a_sign_too_many(self):
        for at in range(len(TEXT) + 1):
            for sign in SIGNS:
                self.check(TEXT[:at] + sign + TEXT[at:])

    def test_another_sign(self):
        for at in range(len(TEXT)):
            for sign in SIGNS:
                self.check(TEXT[:at] + sign + TEXT[at + 1:])

    def check(self, text):
        """What is read is what another reader reads, or it is refused where that reads nothing."""
        try:
            layer = read_layer(text)
        except NoText:
            layer = None
        self.assertEqual(layer, another_reader(text), text)

    def test_line_feeds(self):
        for text in (
            "", "\n", "d /", "d /\n\n", "\nd /\n", "d /\r\n", "d /\n\nd /a\n", "d /\nd /a", "d /\n ", "d /\n \n",
            "d /\nf /a 0 |a\nb|\n", "d /\nf /a 0 |a|", "d /\nf /a 0 |\n|\n", "d /\x0bd /a\n", "d /\n\x0b",
        ):
            self.refused(text)

    def test_blanks(self):
        for text in (
            "d  /\n", " d /\n", "d / \n", "d/\n", "d /\nd /a \n", "d /\nd / a\n", "d /\nf /a  0 |x|\n",
            "d /\nf /a 0  |x|\n", "d /\nf /a 0 |x| \n", "d /\nf /a 0|x|\n", "d /\nf /a0 |x|\n", "d /\nf  /a 0 |x|\n",
            "d /\nf /a\t0 |x|\n", "d /\nf/a 0 |x|\n", "d\t/\n", "d /\nf /a |x|\n", "d /\nf /a 0 \n",
        ):
            self.refused(text)

    def test_numbers(self):
        for number in (
            "00", "01", "000", "0999", "1000", "-1", "+1", "1 ", " 1", "", "a", "1_0", "\u0661", "\u00b2", "1" * 5000,
            "0x1", "1.0", "True", "None", "-0",
        ):
            self.refused("d /\nf /a " + number + " |x|\n")
        for number in ("0", "1", "10", "100", "999"):
            self.assertEqual(read_layer("d /\nf /a " + number + " |x|\n"), {(): S, ("a",): ("file", int(number), "x")})

    def test_texts(self):
        for text in ("", "|", "x", "|x", "x|", "|x|x", "|x||", "||x|", "|X|", "|" + "x" * 41 + "|", "'x'", "|x\u00a0|"):
            self.refused("d /\nf /a 0 " + text + "\n")
        for text in ("", " ", "  a  ", "x" * 40):
            self.assertEqual(read_layer("d /\nf /a 0 |" + text + "|\n"), {(): S, ("a",): ("file", 0, text)})

    def test_paths(self):
        for path in ("", "a", "//", "/a/", "//a", "/A", "/abcde", "/a//b", "/b/a", "/1", "/a/b/c/d/e/f", "\\a", "/."):
            self.refused("d /\nd " + path + "\n")
        self.refused("d /a\n")
        self.refused("d //\n")
        self.refused("d \n")
        self.refused("d\n")

    def test_signs(self):
        for sign in ("D", "e", "dd", "", "df", "o", "f", "0", "drawer", "gone", "|"):
            self.refused("d /\n" + sign + " /a\n")
        for text in ("g /\n", "f / 0 ||\n", "d /\ng /a 0 ||\n", "d /\nd /a 0 ||\n", "d /\nf /a\n", "d / d\n", "d / 0 ||\n"):
            self.refused(text)

    def test_order(self):
        for text in (
            "d /a\nd /\n", "d /\nd /b\nd /a\n", "d /\nd /a\nd /a\n", "d /\nd /\n", "d /\nd /aa\nd /a\n",
            "d /\nd /a\nd /aa\nd /a/z\n", "d /\nd /a\ng /a\n",
        ):
            self.refused(text)

    def test_what_is_no_layer(self):
        for text in (
            "d /\nd /a/b\n", "d /\ng /a\ng /a/b\n", "d /\nf /a 0 |x|\nd /a/b\n", "d /\nf /a 0 |x|\nf /b 0 |y|\n",
        ):
            self.refused(text)

    def test_drawn(self):
        luck = random.Random(9)
        for _ in range(500):
            layer = draw_layer(luck)
            before = copy.deepcopy(layer)
            text = layer_text(layer)
            self.assertEqual(layer_text(shuffled(luck, layer)), text)
            self.assertEqual(read_layer(text), layer)
            self.assertEqual(layer, before)
            lines = text.splitlines(keepends=True)
            luck.shuffle(lines)
            self.check("".join(lines))


if __name__ == "__main__":
    unittest.main()
