import unittest

from helpers import ODD_VALUES, HeadsCase
from twoheads.asking import Test
from twoheads.errors import BadTest, BadText

RESERVED = ("while if elif else break stop put step pairs set clear left right less equal more new "
            "not and or none").split()
WORDS = ("left", "right", "less", "equal", "more", "new left", "new right", "f", "abcdefgh")
WRONG_WORDS = (
    *[word for word in RESERVED if word not in WORDS], "abcdefghi", "A", "aB", "f1", "1", "", " ",
    "new  left", "new", "left ", " left", "new up", "not left", "left and right", "f\n", "\n", "f g",
    "new left ", "new\nleft", "a" * 6000,
)


class MadeTests(HeadsCase):
    def test_cases_kept(self):
        cases = (((True, "left"), (False, "new right")), ((False, "f"),))
        test = Test(*cases)
        self.same_kinds(test.cases, cases)
        for word in WORDS:
            for is_not in (True, False):
                self.same_kinds(Test(((is_not, word),)).cases, (((is_not, word),),))

    def test_greatest(self):
        case = ((False, "left"), (True, "left"), (False, "f"), (True, "g"))
        self.same_kinds(Test(case, case, case, case).cases, (case,) * 4)

    def test_wrong_pairs(self):
        good = (False, "left")
        wrong_pairs = [[False, "left"], (False,), (False, "left", "left"), (), (0, "left"),
                       (1, "left"), (None, "left"), ("", "left"), ("left", False), (False, None),
                       (False, 1), (False, ("left",)), (False, ["left"])]
        wrong_pairs += [(False, word) for word in WRONG_WORDS]
        wrong_pairs += [value for value in ODD_VALUES if value != good]
        for wrong in wrong_pairs:
            for k in range(4):
                for j in range(4):
                    cases = [(good,)] * k + [(good,) * j + (wrong, None)] + [None]
                    self.raises(BadTest, {"at": k, "word": j}, Test, *cases)

    def test_wrong_cases(self):
        good = ((False, "left"),)
        for wrong in (*[value for value in ODD_VALUES if value != (1,)], [(False, "left")], "left"):
            for k in range(4):
                if wrong not in (((), ()), (False, "left")):
                    self.raises(BadTest, {"at": k, "word": 0}, Test, *[good] * k, wrong, good)

    def test_too_many_words(self):
        pair = (False, "left")
        self.raises(BadTest, {"at": 0, "word": 4}, Test, (pair,) * 5)
        self.raises(BadTest, {"at": 1, "word": 4}, Test, (pair,), (pair,) * 4 + (None,), None)
        self.raises(BadTest, {"at": 0, "word": 2}, Test, (pair, pair, None, pair, pair, pair))

    def test_too_many_cases(self):
        good = ((False, "left"),)
        for fifth in (good, None, [], (), (None,)):
            self.raises(BadTest, {"at": 4, "word": 0}, Test, good, good, good, good, fifth)
        self.raises(BadTest, {"at": 3, "word": 0}, Test, good, good, good, None, good)
        self.raises(BadTest, {"at": 0, "word": 4}, Test, good * 5, good, good, good, good)
        self.raises(BadTest, {"at": 0, "word": 0}, Test)

    def test_equal(self):
        one = Test.read("left and not f or right")
        self.assertIs(one == Test.read("left and not f or right"), True)
        self.assertIs(one != Test.read("left and not f or right"), False)
        for text in ("left and f or right", "left and not f", "right or left and not f",
                     "left or not f or right"):
            self.assertIs(one == Test.read(text), False)
        for value in (str(one), one.cases, None, 1, [one]):
            self.assertIs(one == value, False)

    def test_flag_names(self):
        names = Test.read("zz and left or not a and new left or a and less and b").flag_names()
        self.same_kinds(names, ["a", "b", "zz"])
        names.clear()
        self.same_kinds(Test.read("left or new right").flag_names(), [])

    def test_turned(self):
        pairs = (("left", "right"), ("less", "more"), ("new left", "new right"), ("equal", "equal"),
                 ("f and not left", "f and not right"),
                 ("not less and lefty or not new right or equal", "not more and lefty or not new left or equal"))
        for one, other in pairs:
            self.assertEqual(str(Test.read(one).turned()), other)
            self.assertEqual(Test.read(other).turned(), Test.read(one))


class AskedTests(HeadsCase):
    def ask(self, text, *true_words):
        asked = []

        def look(word):
            asked.append(word)
            return word in true_words

        return Test.read(text)(look), asked

    def test_words_asked(self):
        text = "left and not f and right or new left and less or not more"
        for true_words, truth, asked in (
            ((), True, ["left", "new left", "more"]),
            (("more",), False, ["left", "new left", "more"]),
            (("left",), True, ["left", "f", "right", "new left", "more"]),
            (("left", "f", "more"), False, ["left", "f", "new left", "more"]),
            (("left", "right"), True, ["left", "f", "right"]),
            (("new left", "more"), False, ["left", "new left", "less", "more"]),
            (("new left", "less", "more"), True, ["left", "new left", "less"]),
        ):
            self.same_kinds(self.ask(text, *true_words), (truth, asked))

    def test_same_word_asked_again(self):
        self.same_kinds(self.ask("left and not left or left", "left"), (True, ["left", "left", "left"]))
        self.same_kinds(self.ask("not left", "left"), (False, ["left"]))

    def test_error_goes_on(self):
        def look(word):
            if word == "less":
                raise KeyError(word)
            return word == "left"

        with self.assertRaises(KeyError):
            Test.read("left and less")(look)
        self.assertIs(Test.read("right and less or left or less")(look=look), True)


class ReadTests(HeadsCase):
    def test_each_other(self):
        four = "a and not b and left and not new right"
        for text in ("left", "not left", "new left", "not new right", "f", "left and right",
                     "left or right", "not right or left and not more", four,
                     " or ".join([four] * 4), "abcdefgh or not abcdefgh"):
            self.assertEqual(str(Test.read(text)), text)
            self.assertEqual(Test.read(str(Test.read(text))), Test.read(text=text))
        self.same_kinds(Test.read("not new left and f or less").cases,
                        (((True, "new left"), (False, "f")), ((False, "less"),)))

    def test_wrong_words(self):
        for text, word in (
            ("", 0), (" ", 0), (" left", 0), ("left ", 1), ("left  and right", 1), ("  left", 0),
            ("left and  right", 2), ("left and", 2), ("left or", 2), ("left and ", 2), ("not", 1),
            ("new", 1), ("not new", 2), ("not new ", 2), ("new f", 1), ("new new left", 1),
            ("new not left", 1), ("not not left", 1), ("left right", 1), ("left not right", 1),
            ("left and and right", 2), ("left or and right", 2), ("and left", 0), ("or", 0),
            ("left and not", 3), ("left or right or new", 5), ("f g", 1), ("abcdefghi", 0),
            ("left and F", 2), ("f1", 0), ("left\n", 0), ("left\nor right", 0), ("left or f\n", 2),
            ("left or \nf", 2), ("\n", 0), ("left\n or right", 0), ("new left right", 2),
            ("new  left", 1), ("not  left", 1),
        ):
            self.raises(BadText, {"row": 0, "word": word}, Test.read, text)

    def test_too_many(self):
        self.raises(BadText, {"row": 0, "word": 7}, Test.read, "a and b and a and b and a")
        self.raises(BadText, {"row": 0, "word": 11}, Test.read,
                    "left or not a and b and new left and b and")
        self.raises(BadText, {"row": 0, "word": 7}, Test.read, "a or b or a or b or a")
        self.raises(BadText, {"row": 0, "word": 9}, Test.read, "a or b or a or b and c or")

    def test_reserved_words(self):
        for word in RESERVED:
            if word not in ("left", "right", "less", "equal", "more", "new", "not"):
                self.raises(BadText, {"row": 0, "word": 0}, Test.read, word)
                self.raises(BadText, {"row": 0, "word": 2}, Test.read, f"left and {word}")
            if word not in ("and", "or"):
                self.raises(BadText, {"row": 0, "word": 1}, Test.read, f"left {word}")

    def test_no_strings(self):
        for value in ODD_VALUES:
            if not isinstance(value, str):
                self.raises(BadText, {"row": 0, "word": 0}, Test.read, value)
        self.raises(BadText, {"row": 0, "word": 0}, Test.read, Test.read("left"))


if __name__ == "__main__":
    unittest.main()
