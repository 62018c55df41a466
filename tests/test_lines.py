"""What points [16], [17] and [18] say of rows and lines, as far as cartelship/lines.py keeps it."""

import unittest

from cartelship.lines import deed_words, read_deed, read_line, read_row

DEEDS = (
    (["take", "ann", "red"], ("take", "ann", "red")), (["word", "ann"], ("word", "ann")),
    (["free", "ann"], ("free", "ann")), (["flee", "ann"], ("flee", "ann")), (["die", "ann"], ("die", "ann")),
    (["rank", "ann", "0"], ("rank", "ann", 0)), (["rank", "ann", "9999999999"], ("rank", "ann", 9999999999)),
    (["swap", "a", "b", "/"], ("swap", "a", "b", (), ())), (["swap", "a", "b", "x", "/"], ("swap", "a", "b", ("x",), ())),
    (["swap", "a", "b", "/", "y"], ("swap", "a", "b", (), ("y",))),
    (["swap", "a", "b", "x", "z", "/", "y", "w"], ("swap", "a", "b", ("x", "z"), ("y", "w"))),
)
NO_DEEDS = (
    [], [""], ["take"], ["take", "ann"], ["take", "ann", "red", "x"], ["take", "Ann", "red"], ["take", "ann", ""],
    ["word"], ["word", "ann", "red"], ["rank", "ann"], ["rank", "ann", "-1"], ["rank", "ann", "x"], ["rank", "1", "1"],
    ["rank", "ann", "01"], ["rank", "ann", "10000000000"], ["die"], ["undo"], ["swap"], ["swap", "/"], ["swap", "a", "/"],
    ["swap", "a", "b"], ["swap", "a", "b", "x"], ["swap", "a", "b", "/", "/"], ["swap", "a", "b", "x", "/", "y", "/"],
    ["swap", "a", "b", "X", "/"], ["swap", "a", "b", "", "/"], ["swap", "a", "b", "/", ""], ["swap", "A", "b", "x", "/"],
    ["swap", "a", "/", "b", "x"], ["swap", "/", "a", "b"], ["swap", "a", "b", "x", "/", "1"], ["Take", "ann", "red"],
)


class Deeds(unittest.TestCase):
    def test_read_and_written(self):
        for words, deed in DEEDS:
            kept = list(words)
            self.assertEqual(read_deed(words), deed)
            self.assertEqual([str(word) for word in deed_words(deed)], words)
            self.assertEqual(words, kept)

    def test_no_deeds(self):
        for words in NO_DEEDS:
            with self.subTest(words=words):
                self.assertIsNone(read_deed(words))

    def test_behind_their_heads(self):
        for words, deed in DEEDS:
            text = " ".join(words)
            self.assertEqual(read_row(f"deed 3 0 {text}"), ["deed", 3, 0, deed])
            self.assertEqual(read_line(f"on 0 {text}"), ["on", 0, deed])
            self.assertEqual(read_line(f"on -7 {text}"), ["on", -7, deed])
            for row in (f"deed 3 {text}", f"deed {text}", f"deed 3 -1 {text}", f"deed -3 1 {text}", f"on 0 {text}", text,
                        f"deed 3 0  {text}", f"deed 3 0 {text} ", f"deed x 0 {text}"):
                self.assertIsNone(read_row(row))
            for line in (f"on {text}", f"on x {text}", f"on -0 {text}", f"deed 3 0 {text}", f"on 3 4 {text}", text,
                         f"on 0  {text}", f"on 0 {text} ", f" on 0 {text}"):
                self.assertIsNone(read_line(line))
        for words in NO_DEEDS:
            self.assertIsNone(read_row(" ".join(["deed", "1", "2"] + words)))
            self.assertIsNone(read_line(" ".join(["on", "1"] + words)))


class RowsAndLines(unittest.TestCase):
    def test_both(self):
        for text, parts in (("side red", ["side", "red"]), ("man ann red 9", ["man", "ann", "red", 9]),
                            ("cartel b a 0 1 2 3 4 5 6", ["cartel", "b", "a", 0, 1, 2, 3, 4, 5, 6])):
            self.assertEqual(read_row(text), parts)
            self.assertEqual(read_line(text), parts)
        for text in ("side", "side red blue", "side Red", "man ann red", "man ann red -1", "man ann red 1 1",
                     "cartel a b 1 2 3 4 5 6", "cartel a b 1 2 3 4 5 6 7 8", "cartel a b 1 2 3 4 5 6 -7", "", " ", "x"):
            self.assertIsNone(read_row(text))
            self.assertIsNone(read_line(text))

    def test_rows_alone(self):
        self.assertEqual(read_row("next 0"), ["next", 0])
        for text in ("next", "next -1", "next 1 2", "Next 1"):
            self.assertIsNone(read_row(text))
        self.assertIsNone(read_line("next 1"))

    def test_lines_alone(self):
        for text, parts in (
                ("strike 0", ["strike", 0]), ("redate 3 -5", ["redate", 3, -5]), ("undo", ["undo"]), ("redo", ["redo"]),
                ("stands ann -9999999999", ["stands", "ann", -9999999999]), ("roll a b 0", ["roll", "a", "b", 0]),
                ("account a a 7", ["account", "a", "a", 7]), ("fullest a b -1", ["fullest", "a", "b", -1]),
                ("line ann 3", ["line", "ann", 3])):
            self.assertEqual(read_line(text), parts)
            self.assertIsNone(read_row(text))


if __name__ == "__main__":
    unittest.main()
