import unittest

from helpers import ODD_VALUES, HeadsCase
from twoheads.errors import BadText, BadWalk
from twoheads.walks import Walk

RESERVED = ("while if elif else break stop put step pairs set clear left right less equal more new "
            "not and or none").split()


class ReadingTests(HeadsCase):
    def wrong(self, row, word, *rows):
        self.raises(BadText, {"row": row, "word": word}, Walk.read, "\n".join(rows))

    def test_elif_and_else_are_the_same(self):
        one = Walk.read("if left\n  put left\nelif right\n  put right\nelif less\n  stop\nelse\n  set f")
        other = Walk.read("if left\n  put left\nelse\n  if right\n    put right\n  else\n"
                          "    if less\n      stop\n    else\n      set f")
        self.assertEqual(one, other)
        self.assertEqual(str(other), str(one))
        self.assertEqual(len(other), 7)
        mixed = Walk.read("if left\n  put left\nelse\n  if right\n    put right\n  elif less\n"
                          "    stop\n  else\n    set f")
        self.assertEqual(mixed, one)

    def test_else_blocks_that_are_no_elif(self):
        for text in ("while left\n  stop\nelse\n  if right\n    stop",
                     "if left\n  stop\nelse\n  if right\n    stop\n  stop",
                     "if left\n  stop\nelse\n  stop\n  if right\n    stop",
                     "if left\n  stop\nelse\n  while right\n    stop",
                     "if left\n  while left\n    stop\nelse\n  stop"):
            self.assertEqual(str(Walk.read(text)), text)
            self.assertEqual(Walk.read(str(Walk.read(text))), Walk.read(text))

    def test_nothing(self):
        self.wrong(0, 0, "")
        for value in ODD_VALUES:
            if not isinstance(value, str):
                self.raises(BadText, {"row": 0, "word": 0}, Walk.read, value)
        self.raises(BadText, {"row": 0, "word": 0}, Walk.read, Walk.sample("sum"))

    def test_empty_rows(self):
        self.wrong(0, 0, "", "stop")
        self.wrong(0, 0, "  ")
        self.wrong(1, 0, "stop", "")
        self.wrong(1, 0, "stop", "", "stop")
        self.wrong(1, 0, "stop", " ", "stop")
        self.wrong(1, 0, "while left", "", "  stop")
        self.wrong(1, 0, "while left", "  ", "  stop")
        self.wrong(2, 0, "while left", "  stop", "  ", "  stop")
        self.wrong(2, 0, "if left", "  stop", "", "else", "  stop")
        self.wrong(2, 0, "if left", "  stop", "")

    def test_margins(self):
        self.wrong(0, 0, " stop")
        self.wrong(0, 0, "  stop")
        self.wrong(1, 0, "stop", "  stop")
        self.wrong(1, 0, "stop", " stop")
        for margin in ("", " ", "   ", "    "):
            self.wrong(1, 0, "while left", margin + "stop")
            self.wrong(3, 0, "if left", "  stop", "else", margin + "stop")
            self.wrong(3, 0, "if left", "  stop", "elif right", margin + "stop")
        self.wrong(2, 0, "while left", "  if left", "  stop")
        self.wrong(3, 0, "while left", "  if left", "    stop", "   stop")
        self.wrong(3, 0, "while left", "  if left", "    stop", "      stop")
        self.wrong(2, 0, "if left", "  stop", " else", "  stop")
        self.wrong(2, 0, "if left", "  stop", "    else", "  stop")
        text = "while left\n  if left\n    stop\n    stop\n  stop\nstop"
        self.assertEqual(len(Walk.read(text)), 6)

    def test_missing_rows(self):
        self.wrong(1, 0, "while left")
        self.wrong(1, 0, "if left or not less")
        self.wrong(3, 0, "if left", "  stop", "else")
        self.wrong(3, 0, "if left", "  stop", "elif left")
        self.wrong(2, 0, "while left", "  if left")
        self.wrong(1, 0, "while left", "stop")
        self.wrong(1, 0, "while left", "else", "  stop")

    def test_first_words(self):
        for word in (*[word for word in RESERVED if word not in
                       "put step pairs set clear break stop if while".split()],
                     "Stop", "stops", "sto", "f", "puts", "stop\tstop", "{", "stop,"):
            self.wrong(0, 0, word)
            self.wrong(0, 0, word + " left")
            self.wrong(1, 0, "stop", word)
            self.wrong(1, 0, "while left", "  " + word, "  stop")

    def test_acts(self):
        for word in ("put", "step", "pairs"):
            self.assertEqual(str(Walk.read(f"{word} right")), f"{word} right")
            self.wrong(0, 1, word)
            self.wrong(0, 1, word + " ")
            self.wrong(0, 1, word + "  left")
            self.wrong(0, 2, word + " left ")
            self.wrong(0, 2, word + " left right")
            self.wrong(0, 2, word + " left  ")
            for other in (*RESERVED, "f", "Left", "lef"):
                if other not in ("left", "right"):
                    self.wrong(0, 1, f"{word} {other}")
                    self.wrong(0, 1, f"{word} {other} left")
        for word in ("set", "clear"):
            self.assertEqual(str(Walk.read(f"{word} abcdefgh")), f"{word} abcdefgh")
            self.wrong(0, 1, word)
            self.wrong(0, 2, word + " f g")
            self.wrong(0, 2, word + " f ")
            for other in (*RESERVED, "abcdefghi", "F", "f1", "", " f"):
                self.wrong(0, 1, f"{word} {other}")
        for word in ("break", "stop"):
            self.wrong(2, 1, "while left", "  stop", f"{word} left")
            self.wrong(0, 1, word + " ")
            self.wrong(0, 1, word + "  " + word)

    def test_tests_in_rows(self):
        for word in ("if", "while"):
            for rest, at in (("", None), (" ", 1), (" left ", 2), ("  left", 1), (" left and", 3),
                             (" left or ", 3), (" not", 2), (" new", 2), (" new f", 2), (" F", 1),
                             (" left right", 2), (" a and b and a and b and a", 8),
                             (" a or b or a or b or a", 8), (" left and  right", 3), (" else", 1),
                             (" not new left or more less", 6)):
                self.wrong(0, 1 if at is None else at, word + rest, "  stop")
                self.wrong(1, 1 if at is None else at, "while left", "  " + word + rest, "    stop")
        for rest, at in (("", 1), (" ", 1), (" left and", 3), (" left left", 2), (" put", 1)):
            self.wrong(2, at, "if left", "  stop", "elif" + rest, "  stop")
        self.wrong(2, 1, "if left", "  stop", "else ", "  stop")
        self.wrong(2, 1, "if left", "  stop", "else if left", "  stop")

    def test_else_and_elif_that_belong_to_nothing(self):
        for row in ("else", "elif left"):
            self.wrong(0, 0, row, "  stop")
            self.wrong(1, 0, "stop", row, "  stop")
            self.wrong(1, 0, "if left", "  " + row, "    stop")
            self.wrong(1, 0, "if left", row, "  stop")
            self.wrong(2, 0, "if left", "  stop", "  " + row, "    stop")
            self.wrong(3, 0, "if left", "  stop", "stop", row, "  stop")
            self.wrong(4, 0, "if left", "  stop", "else", "  stop", row, "  stop")
            self.wrong(6, 0, "if left", "  stop", "elif right", "  stop", "else", "  stop", row)
            self.wrong(5, 0, "if left", "  stop", "else", "  if right", "    stop", row, "  stop")
            self.wrong(4, 0, "while left", "  stop", "else", "  stop", row, "  stop")
            self.wrong(4, 0, "if left", "  if left", "    stop", "while left", "  " + row, "    stop")
            self.wrong(5, 0, "if left", "  if left", "    stop", "if left", "  stop", "  " + row)
        self.wrong(2, 0, "while left", "  stop", "elif left", "  stop")
        self.wrong(3, 0, "while left", "  if left", "    stop", "elif left", "  stop")
        self.wrong(0, 0, "else left")
        self.wrong(0, 0, "elif")

    def test_else_of_the_right_statement(self):
        text = "while left\n  if left\n    stop\nelse\n  put right"
        self.assertEqual(Walk.read(text)[0].other, Walk.read("put right").parts)
        text = "while left\n  if left\n    stop\n  else\n    put right"
        self.assertEqual(Walk.read(text)[1].other, Walk.read("put right").parts)
        self.assertEqual(Walk.read(text)[0].other, ())

    def test_first_wrong_word_of_many(self):
        self.wrong(1, 2, "while left", "  put left left", "else else", "", "")
        self.wrong(0, 1, "put")
        self.wrong(0, 1, "put", "put", "")

    def test_point_6_behind_the_reader(self):
        for text, reason, line in (
            ("\n".join(["stop"] * 25), "many", 24), ("break", "break", 0),
            ("set a\nset b\nset c", "flags", 2), ("if a or b and c\n  stop", "flags", 0),
            ("while left\n  stop\nelse\n  break", "break", 2),
            ("\n".join("  " * k + "if left" for k in range(7)) + "\n" + " " * 14 + "stop", "deep", 6),
        ):
            self.raises(BadWalk, {"reason": reason, "line": line}, Walk.read, text)
        self.raises(BadText, {"row": 25, "word": 0}, Walk.read, "\n".join(["break"] * 25) + "\n")

    def test_long_texts(self):
        text = "if a\n  stop" + "\nelif a\n  stop" * 420
        self.raises(BadWalk, {"reason": "many", "line": 24}, Walk.read, text)
        self.raises(BadText, {"row": 842, "word": 0}, Walk.read, text + "\n ")
        rows = ["  " * k + "if a" for k in range(72)]
        self.raises(BadWalk, {"reason": "deep", "line": 6}, Walk.read, "\n".join([*rows, "  " * 72 + "stop"]))
        self.raises(BadText, {"row": 72, "word": 0}, Walk.read, "\n".join(rows))
        self.raises(BadText, {"row": 0, "word": 0}, Walk.read, "a" * 6000)
        self.raises(BadText, {"row": 0, "word": 0}, Walk.read, " " * 6000)
        self.raises(BadText, {"row": 0, "word": 0}, Walk.read, "\n" * 6000)


if __name__ == "__main__":
    unittest.main()
