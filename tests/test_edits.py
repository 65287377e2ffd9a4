import unittest

from helpers import ODD_VALUES, HeadsCase
from judge import WORDS, broken
from loops import walks_by_chance
from model import GREATEST
from pairs import ALL_LEFT, NAMES, ranks, short_pairs
from test_bounds import WIDE
from test_fits import UNFIT
from trees import all_edits
from twoheads.alike import alike
from twoheads.checks import breaks, check
from twoheads.claims import Claim
from twoheads.edits import edited, edits, mends
from twoheads.errors import BadName, HeadsError, NotNow, TooLarge, TooMany, Unfit
from twoheads.fits import need_fit
from twoheads.rows import Row
from twoheads.walks import Walk

SLIP = Walk.read("while left and right\n  if less\n    put left\n    step left\n  else\n    step right")
# Elif lines, else blocks, flags with names that begin like words, cases of three and four words.
MIXED = """while left and right and not stopped
  if less
    put left
  elif not more
    pairs right
  elif equal or less
    set stopped
  else
    break
else
  if not equal
    step left
  clear stopped
if left and right and less and lefts or not left
  stop
elif left and right and not less or new right
  put right"""
DEEP = "\n".join("  " * k + "if left" for k in range(5)) + "\n" + "  " * 5 + "step left\n" + "  " * 4 + "else\n" + "  " * 5 + "put right"
RING = "while left and not right\n  step left"


class EditsTests(HeadsCase):
    def all_edits(self, walk):
        """Checks all edits of a walk, and what they make."""
        text = str(walk)
        wanted = all_edits(walk)
        found = edits(walk)
        self.same_kinds(found, sorted(wanted))
        for edit in found:
            made = edited(walk, edit)
            self.assertEqual(made, wanted[edit])
            self.assertEqual(str(made), str(wanted[edit]))
            self.assertEqual(Walk.read(str(made)), made)
        self.assertEqual(str(walk), text)
        return found

    def makes(self, walk, edit, text):
        self.assertIn(edit, edits(walk))
        self.assertEqual(str(edited(walk, edit)), text)

    def test_usual_walks(self):
        for name in NAMES:
            self.all_edits(Walk.sample(name))

    def test_walks_of_every_shape(self):
        for text in (MIXED, DEEP, GREATEST, WIDE, "stop", "step left", "set f", "while f\n  break", "pairs left", ALL_LEFT,
                     "while f\n  set g\nelse\n  stop", "if left\n  stop\nelse\n  if right\n    stop\n  else\n    set f"):
            self.all_edits(Walk.read(text))

    def test_walks_by_chance(self):
        for walk in walks_by_chance(0, 25):
            self.all_edits(walk)

    def test_ahead_and_behind(self):
        walk = Walk.read("if left\n  stop\nelif right\n  set f")
        self.makes(walk, ("ahead", 0, "put right"), "put right\nif left\n  stop\nelif right\n  set f")
        self.makes(walk, ("ahead", 1, "step left"), "if left\n  step left\n  stop\nelif right\n  set f")
        self.makes(walk, ("ahead", 2, "put left"), "if left\n  stop\nelse\n  put left\n  if right\n    set f")
        self.makes(walk, ("behind", 2, "put left"), "if left\n  stop\nelse\n  if right\n    set f\n  put left")
        self.makes(walk, ("behind", 0, "step right"), "if left\n  stop\nelif right\n  set f\nstep right")
        self.makes(walk, ("behind", 3, "step right"), "if left\n  stop\nelif right\n  set f\n  step right")
        walk = Walk.read("set f\nset g\nwhile f\n  stop\nelse\n  set f")
        self.assertNotIn(("behind", 0, "put left"), edits(walk))
        self.assertNotIn(("behind", 1, "put left"), edits(walk))
        self.makes(walk, ("behind", 4, "put left"), "set f\nset g\nwhile f\n  stop\nelse\n  set f\n  put left")
        self.assertEqual({act for word, line, act in [edit for edit in edits(walk) if edit[0] == "ahead"] if line == 0},
                         {"put left", "put right", "step left", "step right"})

    def test_drop(self):
        walk = Walk.read("if left\n  stop\nelse\n  set f\n  if right\n    set g\n  else\n    stop")
        self.makes(walk, ("drop", 2), "if left\n  stop\nelif right\n  set g\nelse\n  stop")
        self.makes(walk, ("drop", 3), "if left\n  stop\nelse\n  set f")
        for line in (0, 1, 4, 5):
            self.raises(NotNow, {"what": ("drop", line)}, edited, walk, ("drop", line))
        walk = Walk.read("if left\n  stop\nelif right\n  set f")
        self.assertEqual([edit for edit in edits(walk) if edit[0] == "drop"], [])
        self.makes(Walk.read("while f\n  stop\n  set f\nset g"), ("drop", 0), "set g")

    def test_guard(self):
        walk = Walk.read("if less or more and not equal\n  put left\nelse\n  pairs right")
        self.makes(walk, ("guard", 0, "right"), "if right and less or right and more and not equal\n  put left\nelse\n  pairs right")
        self.makes(walk, ("guard", 1, "left"), "if less or more and not equal\n  if left\n    put left\nelse\n  pairs right")
        self.makes(walk, ("guard", 2, "right"), "if less or more and not equal\n  put left\nelif right\n  pairs right")
        walk = Walk.read("while f\n  break\nset f\nstop\nclear f")
        self.assertEqual([edit for edit in edits(walk) if edit[0] == "guard"], [("guard", 0, "left"), ("guard", 0, "right")])
        self.makes(walk, ("guard", 0, "left"), "while left and f\n  break\nset f\nstop\nclear f")
        for cases in ("f and f and f and f", "g or f and f and f and f", "f and f and f and f or g"):
            walk = Walk.read(f"if {cases}\n  set f")
            self.assertFalse([edit for edit in edits(walk) if edit[0] == "guard"])
            self.raises(NotNow, {"what": ("guard", 0, "left")}, edited, walk, ("guard", 0, "left"))
        self.makes(Walk.read("if f and f and f or g\n  set f"), ("guard", 0, "left"), "if left and f and f and f or left and g\n  set f")

    def test_turn_and_word(self):
        walk = Walk.read("while not less\n  put left\n  step right\n  pairs left")
        self.makes(walk, ("turn", 1), "while not less\n  put right\n  step right\n  pairs left")
        self.makes(walk, ("turn", 3), "while not less\n  put left\n  step right\n  pairs right")
        self.makes(walk, ("word", 0, "equal"), "while not equal\n  put left\n  step right\n  pairs left")
        self.assertEqual([edit for edit in edits(walk) if edit[0] in ("word", "turn")],
                         [("turn", 1), ("turn", 2), ("turn", 3), ("word", 0, "equal"), ("word", 0, "more")])
        for test in ("less or more", "less and more", "left", "new left", "lesser", "not left", "less or less"):
            self.assertFalse([edit for edit in edits(Walk.read(f"if {test}\n  stop")) if edit[0] == "word"])

    def test_no_walks(self):
        walk = Walk.read("\n".join(["stop"] * 22 + ["put left"]))
        self.assertEqual(len([edit for edit in edits(walk) if edit[0] == "ahead"]), 92)
        walk = Walk.read("\n".join(["stop"] * 22 + ["put left", "step left"]))
        self.assertEqual(len(walk), 24)
        self.assertEqual({edit[0] for edit in edits(walk)}, {"drop", "turn"})
        for edit in (("ahead", 0, "put left"), ("behind", 23, "step left"), ("guard", 22, "left")):
            self.raises(NotNow, {"what": edit}, edited, walk, edit)
        deep = Walk.read(DEEP)
        self.assertEqual(max(depth for _, depth, _ in deep.lines()), 6)
        self.assertNotIn(("guard", 5, "left"), edits(deep))
        # In the else block of an `if` the guard is an `elif`, which is no deeper.
        self.makes(deep, ("guard", 6, "left"), DEEP.replace("        else\n          put right", "        elif left\n          put right"))
        self.makes(deep, ("ahead", 5, "put left"), DEEP.replace("          step left", "          put left\n          step left"))
        elifs = Walk.read("\n".join("  " * k + "if left" for k in range(5)) + "\n" + "  " * 5 + "stop\n" + "  " * 4 + "elif right\n"
                          + "  " * 5 + "stop")
        self.assertNotIn(("ahead", 6, "put left"), edits(elifs))
        self.assertIn(("ahead", 5, "put left"), edits(elifs))
        self.raises(NotNow, {"what": ("behind", 6, "put left")}, edited, elifs, ("behind", 6, "put left"))

    def test_flags_and_breaks_stay(self):
        walk = Walk.read("while f\n  if g\n    break\n  step left\nput right")
        for edit in edits(walk):
            self.assertLessEqual(set(edited(walk, edit).flags), {"f", "g"})
        self.makes(walk, ("drop", 1), "while f\n  step left\nput right")

    def test_any_values(self):
        walk = Walk.read(MIXED)
        told = edits(walk)
        wrong = [*ODD_VALUES, walk, "drop", ("drop",), ("drop", 0, 0), ("drop", 99), ("drop", -1), ("drop", "0"), ("drop", None), ("turn", 0),
                 ("turn", 99), ("ahead", 0), ("ahead", 0, "set f"), ("ahead", 0, "pairs left"), ("ahead", 0, "put  left"), ("ahead", 0, "put"),
                 ("ahead", 0, ("put", "left")), ("ahead", 0, Walk.read("put left")), ("ahead", 0, "put left", 0), ("ahead", 19, "put left"),
                 ("ahead", -1, "put left"), ("Ahead", 0, "put left"), ("guard", 0, "both"), ("guard", 0, None), ("guard", 6, "left"), ("guard", 11, "left"),
                 ("word", 1, "less"), ("word", 0, "more"), ("word", 1, "left"), ("word", 1, "not more"), ("behind", 0, "put left"), ("else", 1),
                 (("drop", 0),), ("ahead", 10 ** 59, "put left"), (0, "drop"), ("ahead", "put left", 0), Row([1])]
        for value in wrong:
            self.assertNotIn(value, told)
            with self.assertRaises(NotNow) as caught:
                edited(walk, value)
            self.assertIs(caught.exception.what, value)
            self.assertIs(caught.exception.__class__, NotNow)
        for edit in told:
            for value in (list(edit), (*edit, None), edit[:-1], [edit], {edit: 1}, edit[::-1]):
                with self.assertRaises(NotNow) as caught:
                    edited(walk=walk, edit=value)
                self.assertIs(caught.exception.what, value)
        for line, truth in ((0, False), (1, True)):
            two = Walk.read("put left\nput left")
            for edit in edits(two):
                if edit[1] == line:
                    value = (edit[0], truth, *edit[2:])
                    self.assertEqual(value, edit)
                    with self.assertRaises(NotNow) as caught:
                        edited(two, value)
                    self.assertIs(caught.exception.what, value)

    def test_new_lists(self):
        found = edits(SLIP)
        found.clear()
        self.assertGreater(len(edits(SLIP)), 30)
        self.assertEqual(edited(SLIP, ("turn", 2)), edited(walk=SLIP, edit=("turn", 2)))

    def test_examples(self):
        self.assertEqual(str(edited(SLIP, ("guard", 2, "right"))).split("\n")[2:4], ["    if right", "      put left"])


class MendsTests(HeadsCase):
    def mended(self, walk, *claims, like=None):
        """Checks both answers for all edits of a walk by what is told of the edited walks."""
        good, bad = mends(walk, *claims, like=like)
        self.assertEqual((good.__class__, bad.__class__), (list, dict))
        self.same_kinds(good, sorted(good))
        self.same_kinds(sorted([*good, *bad]), edits(walk))
        words = [str(claim) for claim in claims]
        for edit in edits(walk):
            made = edited(walk, edit)
            broken_words = [word for word in words if not check(made, word)]
            wanted = None if like is None else told_of(made, like)
            self.assertEqual(edit in good, not broken_words and wanted in (None, "alike"), edit)
            if edit in bad:
                self.right_fault(made, broken_words, wanted, bad[edit], like)
        return good, bad

    def right_fault(self, made, broken_words, wanted, fault, like):
        if broken_words or wanted == "parted":
            self.assertEqual([fault.__class__, *[row.__class__ for row in fault]], [tuple] * 3)
            self.assertTrue(all(rank.__class__ is int for row in fault for rank in row))
        if broken_words:
            self.assertTrue(broken(made, *fault) & set(broken_words))
            self.assertTrue(any(breaks(made, word, *fault) for word in broken_words))
        elif wanted == "parted":
            self.assertNotEqual(ranks(made, *fault), ranks(like, *fault))
        else:
            self.assertEqual(fault, wanted)

    def test_claims(self):
        for claims in ((), ("inside",), (Claim("inside"), "uses left"), WORDS, ("spares right", Claim("ordered"), "single")):
            self.mended(SLIP, *claims)
            self.mended(Walk.read("step left"), *claims)
        self.assertEqual(mends(SLIP), (edits(SLIP), {}))
        self.assertEqual(mends(SLIP, "inside", Claim("ending")), mends(SLIP, "ending", "inside", "ending"))

    def test_walks_by_chance(self):
        count = {"good": 0, "bad": 0}
        for walk in [walk for walk in walks_by_chance(100, 150) if len(walk) <= 9][:14]:
            good, bad = self.mended(walk, "ending", "stable")
            count["good"] += len(good)
            count["bad"] += len(bad)
        self.assertTrue(all(many > 50 for many in count.values()), count)

    def test_all_short_rows(self):
        pairs = short_pairs(3)
        claims = {"inside", "ending", "ordered"}
        for walk in (SLIP, Walk.read(ALL_LEFT), Walk.read("while left and right\n  put left\n  step right")):
            good, _ = mends(walk, *sorted(claims))
            self.assertTrue(good)
            for edit in good:
                for left, right in pairs:
                    self.assertFalse(broken(edited(walk, edit), left, right) & claims)

    def test_like(self):
        short = [Walk.read(text) for text in (ALL_LEFT, "while left and right\n  if not less\n    put right\n    step right\n  else\n    step left",
                                              "if left and not right\n  step left", RING, "while left\n  if right and more\n    step right\n"
                                              "  else\n    step left")]
        kinds = set()
        for walk in short:
            for like in (*short, Walk.sample("lacks"), Walk.sample("both")):
                for claims in ((), ("inside", "keeps left")):
                    _, bad = self.mended(walk, *claims, like=like)
                    kinds |= {fault if isinstance(fault, str) else "rows" for fault in bad.values()}
        self.assertEqual(kinds, {"unfit", "rows"})
        good, _ = mends(Walk.read("while left\n  if right and more\n    step right\n  else\n    put left\n    step right"), like=Walk.read(ALL_LEFT))
        self.assertEqual(good, [("turn", 4)])

    def test_large(self):
        ring = RING + "\n  if left\n    step left\n    if left\n      step left"
        walk = Walk.read(ring)
        self.assertEqual(len(walk), 6)
        _, bad = self.mended(walk, like=Walk.read("stop"))
        self.assertIn("large", bad.values())
        self.assertIn("unfit", bad.values())
        large = Walk.read(ring + "\n      if left\n        step left")
        good, bad = self.mended(Walk.read(ALL_LEFT), "inside", like=large)
        self.assertEqual(good, [])
        self.assertEqual({fault if isinstance(fault, str) else "rows" for fault in bad.values()}, {"large", "unfit", "rows"})

    def test_refused(self):
        stops = [Walk.read("\n".join(["stop"] * many)) for many in range(1, 25)]
        unfit = Walk.read("put left")
        for walk in stops:
            many = len(walk)
            for claims in ((), ("inside",), ("no claim",)):
                if many > 12:
                    self.raises(TooMany, {"most": 12}, mends, walk, *claims)
                if many > 6:
                    for like in (Walk.sample("sum"), unfit):
                        self.raises(TooMany, {"most": 6}, lambda: mends(walk, *claims, like=like))
        self.assertEqual(len(mends(stops[11], "inside")[0]), len(edits(stops[11])) - len(mends(stops[11], "inside")[1]))
        self.mended(stops[5], "inside", like=Walk.sample("sum"))
        for like in (None, Walk.sample("sum"), unfit):
            for value in (*[odd for odd in ODD_VALUES if odd is not None], "keeps", "Inside", ("inside",), Walk.read("stop")):
                for claims in ((value,), ("inside", value, "x"), ("inside", Claim("single"), value)):
                    with self.assertRaises(BadName) as caught:
                        mends(stops[2], *claims, like=like)
                    self.assertIs(caught.exception.name, value)
            self.raises(BadName, {"name": None}, lambda: mends(stops[2], None, like=like))
        for word, texts in UNFIT.items():
            for claims in ((), ("inside", "keeps left")):
                self.raises(Unfit, {"claim": word}, lambda: mends(stops[2], *claims, like=Walk.read(texts[0])))

    def test_greatest(self):
        walk = Walk.read("while left or right\n  if not f and left\n    put left\n    step left\n    set f\n  elif right and g or not left\n"
                         "    step right\n    clear f\n  elif left\n    step left\n    set g\n    clear g")
        self.assertEqual(len(walk), 12)
        self.mended(walk, *WORDS)
        self.mended(walk, "inside", "ending")

    def test_nothing_changes(self):
        text = str(SLIP)
        like = Walk.sample("lacks")
        first = mends(SLIP, "inside", like=like)
        again = mends(SLIP, "inside", like=like)
        self.assertEqual(first, again)
        first[0].clear()
        first[1].clear()
        self.assertEqual(mends(SLIP, "inside", like=like), again)
        self.assertEqual((str(SLIP), like), (text, Walk.sample("lacks")))

    def test_examples(self):
        self.assertEqual(mends(Walk.read("step left"), "inside")[0], [("guard", 0, "left")])


def told_of(made, like):
    """What is to be told of an edited walk that keeps all claims."""
    try:
        need_fit(made)
    except Unfit:
        return "unfit"
    try:
        return alike(made, like).word
    except TooLarge:
        return "large"
    except HeadsError as error:
        raise AssertionError(error)


if __name__ == "__main__":
    unittest.main()
