import unittest
from itertools import product

from helpers import ODD_VALUES, HeadsCase
from judge import WORDS, broken
from loops import walks_by_chance
from model import GREATEST
from pairs import ALL_LEFT, NAMES, modelled, ranks, short_pairs
from test_books import GREATEST_FIT
from test_fits import UNFIT
from twoheads.alike import alike
from twoheads.bounds import bound
from twoheads.checks import check
from twoheads.desk import Desk
from twoheads.edits import edited, edits, mends
from twoheads.errors import BadName, BadPlace, BadText, BadWalk, HeadsError, NotNow, TooLarge, Unfit
from twoheads.idle import idle
from twoheads.parts import Put, Step
from twoheads.plays import Play
from twoheads.rows import Row
from twoheads.walks import Walk

UNION = Walk.sample("union")
LARGE = ("while left and not right\n  step left\n  if left\n    step left\n    if left\n      step left\n      if left\n        step left")


class Odd(Exception):
    """An error that is none of the package."""


def row_text(row):
    return " ".join(str(rank) for rank in row) or "-"


def changes_of(desk):
    """All walks that can be brought back, the latest first; the desk stays as it was."""
    found = []
    try:
        with desk.trial():
            while True:
                desk.back()
                found.append(desk.present)
    except NotNow:
        return found


class DeskCase(HeadsCase):
    def state(self, desk):
        return desk.present, desk.limit, changes_of(desk)

    def stays(self, desk, kind, fields, deed, *values):
        """Checks that a call is refused and changes nothing."""
        before = self.state(desk)
        self.raises(kind, fields, deed, *values)
        self.assertEqual(self.state(desk), before)


class EditingTests(DeskCase):
    def test_present(self):
        walk = Walk.read("step left")
        desk = Desk(walk=walk)
        self.assertIs(desk.present, walk)
        desk[0] = "stop"
        self.assertEqual((str(walk), str(desk.present)), ("step left", "stop"))
        with self.assertRaises(AttributeError):
            desk.present = walk

    def test_places(self):
        desk = Desk(UNION)
        for line in range(16):
            self.assertEqual(desk[line], UNION[line])
        self.assertEqual((desk[2], desk[3]), (Put("left"), Step("left")))
        for line in (-1, 16, 17, -16, 10 ** 59):
            self.stays(desk, BadPlace, {"at": line}, lambda: desk[line])
            for text in ("put left", "", None, "break"):
                self.stays(desk, BadPlace, {"at": line}, desk.__setitem__, line, text)
        with self.assertRaises(TypeError):
            list(desk)

    def test_settings(self):
        desk = Desk(Walk.read("while left\n  if right\n    set f\n  elif f\n    stop\n  step left"))
        desk[2] = "put right\nstep right"
        self.assertEqual(str(desk.present), "while left\n  if right\n    put right\n    step right\n  elif f\n    stop\n  step left")
        desk[4] = "break"
        self.assertEqual(str(desk.present), "while left\n  if right\n    put right\n    step right\n  else\n    break\n  step left")
        desk[4] = "if f\n  stop\nelse\n  break"
        self.assertEqual(str(desk.present), "while left\n  if right\n    put right\n    step right\n  elif f\n    stop\n  else\n    break\n"
                                            "  step left")
        desk[1] = "set g\nclear g"
        self.assertEqual(str(desk.present), "while left\n  set g\n  clear g\n  step left")
        desk[0] = "stop"
        self.assertEqual(str(desk.present), "stop")
        self.assertEqual(len(changes_of(desk)), 5)
        desk[0] = "stop"
        self.assertEqual(len(changes_of(desk)), 6)

    def test_added(self):
        desk = same = Desk(Walk.read("set f"))
        desk += "while f\n  break\nput left"
        self.assertIs(desk, same)
        self.assertEqual(str(desk.present), "set f\nwhile f\n  break\nput left")
        desk.back()
        self.assertEqual(str(desk.present), "set f")

    def test_bad_texts(self):
        desk = Desk(Walk.read("while left\n  step left\nset f\nset g"))
        for text, row, word in (("", 0, 0), (None, 0, 0), (7, 0, 0), ("put", 0, 1), ("put left\n put right", 1, 0), ("if f", 1, 0),
                                ("stop\nelse\n  stop", 1, 0), ("put left ", 0, 2), ("elif f\n  stop", 0, 0), (["put left"], 0, 0),
                                ("if f\n  put\n", 1, 1)):
            self.stays(desk, BadText, {"row": row, "word": word}, desk.__setitem__, 1, text)
            self.stays(desk, BadText, {"row": row, "word": word}, desk.__iadd__, text)
        # A text that no walk has may be one in its place, and the other way round.
        desk[1] = "if left\n  break"
        desk.back()
        self.stays(desk, BadWalk, {"reason": "break", "line": 2}, desk.__setitem__, 2, "break")
        self.stays(desk, BadWalk, {"reason": "break", "line": 5}, desk.__iadd__, "stop\nbreak")
        self.stays(desk, BadWalk, {"reason": "flags", "line": 3}, desk.__setitem__, 1, "set h")
        self.stays(desk, BadWalk, {"reason": "flags", "line": 5}, desk.__iadd__, "set f\nif h\n  stop")
        self.stays(desk, BadWalk, {"reason": "many", "line": 24}, desk.__setitem__, 0, "\n".join(["stop"] * 23))
        self.stays(desk, BadWalk, {"reason": "many", "line": 24}, desk.__iadd__, "\n".join(["stop"] * 21))
        desk += "\n".join(["stop"] * 20)
        self.assertEqual(len(desk.present), 24)
        deep = "\n".join("  " * k + "if f" for k in range(5)) + "\n" + "  " * 5 + "stop"
        desk = Desk(Walk.read("while left\n  step left\nset f"))
        self.stays(desk, BadWalk, {"reason": "deep", "line": 6}, desk.__setitem__, 1, deep)
        desk[2] = deep
        self.assertEqual(len(desk.present), 8)

    def test_edits(self):
        desk = Desk(Walk.read("step left"))
        self.assertIsNone(desk.edit(edit=("guard", 0, "left")))
        self.assertEqual(str(desk.present), "if left\n  step left")
        for edit in edits(desk.present):
            wanted = edited(desk.present, edit)
            desk.edit(edit)
            self.assertEqual(desk.present, wanted)
            desk.back()
        for value in (*ODD_VALUES, ("drop", 0), ("turn", True), ["turn", 1], ("turn", 0), ("turn", 2)):
            before = self.state(desk)
            with self.assertRaises(NotNow) as caught:
                desk.edit(value)
            self.assertIs(caught.exception.what, value)
            self.assertEqual(self.state(desk), before)

    def test_back(self):
        desk = Desk(Walk.read("stop"))
        texts = ["stop"]
        for k in range(6):
            desk[0] = ("put left", "put right")[k % 2]
            desk.edit(("turn", 0))
            desk += "set f"
            texts += [str(desk.present)] * 3
            desk.back(3)
            texts = texts[:-3]
            desk[0] = ("step left", "step right")[k % 2]
            texts.append(str(desk.present))
        self.assertEqual([str(walk) for walk in changes_of(desk)], texts[-2::-1])
        for count in (-1, 7, 8, 10 ** 59, -(10 ** 59)):
            self.stays(desk, NotNow, {"what": "back"}, desk.back, count)
            self.stays(desk, NotNow, {"what": "back"}, lambda: desk.back(count=count))
        self.assertIsNone(desk.back(0))
        self.assertEqual(len(changes_of(desk)), 6)
        self.assertIsNone(desk.back())
        self.assertEqual(str(desk.present), texts[-2])
        desk.back(4)
        self.assertEqual((str(desk.present), len(changes_of(desk))), (texts[1], 1))
        desk.back(count=1)
        self.assertEqual(str(desk.present), "stop")
        self.stays(desk, NotNow, {"what": "back"}, desk.back)
        desk.back(0)


class LimitTests(DeskCase):
    def filled(self, many):
        desk = Desk(Walk.read("stop"))
        for k in range(many):
            desk[0] = f"set {'abcdefghijklmnopqrstuvwxyz'[k % 26]}{'xyz'[k // 26]}"
        return desk

    def test_first(self):
        for many in (0, 5, 19, 20, 21, 40):
            desk = self.filled(many)
            self.assertEqual(desk.limit, 20)
            self.assertEqual(len(changes_of(desk)), min(many, 20))
        self.assertEqual(str(changes_of(self.filled(20))[-1]), "stop")
        self.assertEqual(str(changes_of(self.filled(21))[-1]), "set ax")

    def test_set(self):
        for limit in (0, 1, 7, 20, 21, 49, 50):
            for way in range(2):
                desk = self.filled(20)
                before = changes_of(desk)
                if way:
                    desk.limit = limit
                else:
                    self.assertIsNone(desk.set_limit(value=limit))
                self.assertEqual(desk.limit, limit)
                self.assertEqual(changes_of(desk), before[:limit])
                present = desk.present
                for k in range(60):
                    desk[0] = f"set {'abcdefghij'[k % 10]}"
                    self.assertEqual(len(changes_of(desk)), min(limit, min(limit, 20) + k + 1))
                self.assertIn(str(present), ("set tx",))

    def test_forgotten(self):
        desk = self.filled(20)
        desk.limit = 3
        desk.limit = 50
        self.assertEqual([str(walk) for walk in changes_of(desk)], ["set sx", "set rx", "set qx"])
        self.stays(desk, NotNow, {"what": "back"}, desk.back, 4)
        desk.back(3)
        self.assertEqual(str(desk.present), "set qx")
        desk.limit = 0
        desk[0] = "stop"
        self.stays(desk, NotNow, {"what": "back"}, desk.back)
        desk.back(0)
        self.assertEqual(str(desk.present), "stop")

    def test_other_values(self):
        desk = self.filled(4)
        for value in (*ODD_VALUES, -1, 51, 10 ** 59, "20", (20,), [20], UNION):
            before = self.state(desk)
            for deed in (lambda: desk.set_limit(value), lambda: setattr(desk, "limit", value)):
                with self.assertRaises(BadPlace) as caught:
                    deed()
                self.assertIs(caught.exception.at, value)
            self.assertEqual(self.state(desk), before)


class AskTests(DeskCase):
    def answers(self, walk, line, wanted):
        desk = Desk(walk)
        self.assertEqual(desk.ask(line=line), wanted)
        self.assertIs(desk.present, walk)
        self.assertEqual(desk.run(line, line), [wanted, wanted])

    def wrong(self, line, word, desk=None):
        """Checks that a line is refused at a word, whatever the walk is."""
        for told in [desk] if desk else [Desk(UNION), Desk(Walk.read("while left\n  put left"))]:
            self.stays(told, BadText, {"row": 0, "word": word}, told.ask, line)
            self.stays(told, BadText, {"row": 0, "word": word}, told.run, "text", line)

    def test_claims(self):
        for walk in (*[Walk.sample(name) for name in NAMES], Walk.read("step left"), Walk.read("while left\n  put left")):
            for word in WORDS:
                verdict = check(walk, word)
                wanted = f"holds, {len(verdict.paper)} rows" if verdict else "breaks on " + " / ".join(map(row_text, verdict.paper))
                self.answers(walk, word, wanted)
        self.answers(Walk.read("step left"), "inside", "breaks on - / -")
        self.answers(UNION, "keeps right", "breaks on 0 / 0")
        self.answers(Walk.sample("both"), "uses left", "breaks on 0 / -")
        self.answers(Walk.read("stop"), "level", "holds, 12 rows")

    def test_wrong_claims(self):
        for line, word in (("", 0), (" ", 0), (" inside", 0), ("inside ", 1), ("inside left", 1), ("Inside", 0), ("inside\n", 0),
                           ("\ninside", 0), ("inside\ntext", 0), ("keeps", 1), ("keeps ", 1), ("keeps  left", 1), ("keeps up", 1),
                           ("keeps left ", 2), ("keeps left right", 2), ("uses", 1), ("spares less", 1), ("keeps left\n", 1), ("left", 0),
                           ("keepsleft", 0), ("steady", 0), ("holds", 0), ("ordered single", 1), ("spares right\nback", 1)):
            self.wrong(line, word)
        for value in (*ODD_VALUES, 12):
            if value not in ("", "a", "left"):
                self.wrong(value, 0)

    def test_like(self):
        for one, other in product(NAMES, NAMES):
            verdict = alike(Walk.sample(one), Walk.sample(other))
            wanted = "alike" if verdict else "parted on " + " / ".join(map(row_text, verdict.paper))
            self.answers(Walk.sample(one), f"like {other}", wanted)
        self.answers(Walk.sample("sum"), "like union", "parted on 0 / 0")
        self.answers(Walk.read("stop"), "like lacks", "parted on 0 / -")
        for word, texts in UNFIT.items():
            desk = Desk(Walk.read(texts[0]))
            self.stays(desk, Unfit, {"claim": word}, desk.ask, "like sum")
            self.stays(desk, Unfit, {"claim": word}, desk.run, "text", "like sum")
        desk = Desk(Walk.read(LARGE))
        self.stays(desk, TooLarge, {"most": 24}, desk.ask, "like both")

    def test_wrong_like(self):
        for line, word in (("like", 1), ("like ", 1), ("like sums", 1), ("like Sum", 1), ("like left", 1), ("like none", 1),
                           ("like  sum", 1), ("like sum ", 2), ("like sum union", 2), ("like sum\n", 1), ("Like sum", 0), ("like\nsum", 0),
                           ("alike sum", 0), ("likes sum", 0), (" like sum", 0)):
            self.wrong(line, word)

    def test_bound(self):
        for name in NAMES:
            walk = Walk.sample(name)
            for count, a, b in product(("compares", "puts"), (0, 1, 2, 20), (0, 1, 2, 20)):
                if count == "compares" or name != "join":
                    found = bound(walk, count, a, b)
                    self.answers(walk, f"bound {count} {a} {b}", str(found.c) if found else "grows")
        self.answers(UNION, "bound compares 1 1", "grows")
        self.answers(UNION, "bound compares 1 2", "0")
        self.answers(Walk.read("\n".join(["put left"] * 13)), "bound puts 1 0", "12")
        for walk, line, claim in ((Walk.sample("join"), "bound puts 1 1", "pairs"), (Walk.read("while left\n  put left"), "bound puts 1 1", "ending"),
                                  (Walk.read("while left\n  put left\npairs left"), "bound compares 0 0", "ending")):
            desk = Desk(walk)
            self.stays(desk, Unfit, {"claim": claim}, desk.ask, line)

    def test_wrong_bound(self):
        for line, word in (("bound", 1), ("bound compare 1 1", 1), ("bound compares", 2), ("bound compares 1", 3), ("bound compares 1 1 ", 4),
                           ("bound compares 1 1 1", 4), ("bound  compares 1 1", 1), ("bound compares  1 1", 2), ("bound compares 1  1", 3),
                           ("bound puts 01 1", 2), ("bound puts 1 00", 3), ("bound puts 21 1", 2), ("bound puts 1 21", 3), ("bound puts -1 1", 2),
                           ("bound puts +1 1", 2), ("bound puts 1 1\n", 3), ("bound puts 1000000 1", 2), ("bound puts x 99", 2),
                           ("bound puts 1 1.", 3), ("bound puts 99 x", 2), ("bound 1 1", 1), ("bound puts 1 - 1", 3), ("bound puts\n1 1", 1)):
            self.wrong(line, word)

    def test_play(self):
        self.answers(UNION, "play 0 1 1 / 0 2", "0 1 1 2")
        self.answers(UNION, "play - / -", "-")
        self.answers(UNION, "play - / 0", "0")
        self.answers(UNION, "play 999999 / -", "999999")
        self.answers(Walk.sample("both"), "play 0 1 / 2 3", "-")
        self.answers(Walk.sample("join"), "play 3 3 5 / 3 3 3", "3 3 3 3 3 3")
        self.answers(UNION, "play " + " ".join(["7"] * 20) + " / " + " ".join(map(str, range(20))), " ".join(
            ["0", "1", "2", "3", "4", "5", "6", *["7"] * 20, *map(str, range(8, 20))]))
        walk = Walk.read("while right\n  step right\nput left\nstep left\nput left")
        self.answers(walk, "play 1 2 / 5", "1 2")
        self.answers(walk, "play 1 / 5", "1; behind left at 4")
        self.answers(walk, "play - / 5", "-; behind left at 2")
        self.answers(-walk, "play 5 / -", "-; behind right at 2")
        self.answers(Walk.read("put left\nset f\nset f\npairs right"), "play 1 / 2", "1; unlike at 3")
        self.answers(Walk.read("pairs right"), "play 1 / 2", "-; unlike at 0")
        self.answers(Walk.read("pairs right"), "play 1 / -", "-; behind right at 0")
        self.answers(Walk.read("set f\nwhile right\n  put left"), "play 1 / 2", "1 1; endless at 1")
        self.answers(Walk.read("set f\nwhile right\n  set f"), "play 1 / 2", "-; endless at 1")

    def test_long_plays(self):
        """A run of more than a thousand statements is played to its end."""
        text = ("while left or right\n  if not g\n" + "    set g\n" * 13 + "  elif not f\n    set f\n  else\n    clear f\n    clear g\n"
                "    if left\n      put left\n      step left\n    else\n      put right\n      step right")
        left, right = [1] * 20, [2] * 20
        for walk, behind in ((Walk.read(text), ""), (Walk.read(text[:text.index("    clear g\n    if")] + "    clear g\n    put left\n    step left"),
                                                     "; behind left at 19")):
            events = modelled(walk, left, right).events
            self.assertEqual(len(events) > 1000, not behind)
            self.answers(walk, f"play {row_text(left)} / {row_text(right)}", row_text(left + right if not behind else left) + behind)

    def test_wrong_play(self):
        twenty = " ".join(["3"] * 20)
        for line, word in (("play", 1), ("play ", 1), ("play /", 1), ("play / 1", 1), ("play 0", 2), ("play 0 1", 3), ("play 0 /", 3),
                           ("play 0 / ", 3), ("play - /", 3), ("play -", 2), ("play - 0 / 1", 2), ("play 0 - / 1", 2), ("play 0 / - 1", 4),
                           ("play 0 / 1 -", 4), ("play 0 / 1 /", 4), ("play 0 / 1 / 2", 4), ("play  0 / 1", 1), ("play 0  1 / 1", 2),
                           ("play 0 /  1", 3), ("play 0 / 1 ", 4), ("play 0 1 0 / 1", 3), ("play 5 / 2 3 2", 5), ("play 01 / 1", 1),
                           ("play 0 / 00", 3), ("play 1000000 / 1", 1), ("play 0 0000001 / 1", 2), ("play -1 / 1", 1), ("play +1 / 1", 1),
                           ("play a / 1", 1), ("play 1, 2 / 1", 1), ("play 0/1", 1), ("play 0 // 1", 2), ("play 0 / 1\n", 3), ("play 0\n/ 1", 1),
                           ("\nplay 0 / 1", 0), (f"play {twenty} 3 / 1", 21), (f"play {twenty} 4 / 1", 21), (f"play 1 / {twenty} 3", 23),
                           (f"play {twenty} 2 / 1", 21), (f"play {twenty}", 21), (f"play 1 / {twenty} /", 23), (f"play {twenty} x / 1", 21),
                           ("play - - / 1", 2), ("play 0 / --", 3), ("plays 0 / 1", 0), ("play 1 0 / x", 2), ("play 1e3 / 1", 1)):
            self.wrong(line, word)
        self.answers(UNION, f"play {twenty} / {twenty}", twenty)

    def test_idle_and_text(self):
        self.answers(UNION, "idle", "-")
        self.answers(Walk.read("while left\n  if left\n    step left\n  else\n    stop"), "idle", "1 true, 3 dead")
        self.answers(Walk.read("if f\n  stop\nput left"), "idle", "0 false, 1 dead")
        self.answers(Walk.read("stop\nstop"), "idle", "1 dead")
        self.answers(Walk.read("stop"), "text", "stop")
        self.answers(Walk.read("while left\n  if not less or more\n    stop\n  else\n    set f\nput left"), "text",
                     "while left; if not less or more; stop; else; set f; put left")
        for walk in (UNION, Walk.read(GREATEST), Walk.sample("lacks")):
            self.answers(walk, "text", "; ".join(row.strip() for row in str(walk).split("\n")))
            self.answers(walk, "idle", ", ".join(f"{line} {word}" for line, word in idle(walk)) or "-")
        for line, word in (("idle ", 1), ("idle 1", 1), ("text ", 1), ("text text", 1), ("idle\n", 0), ("texts", 0), ("text\nback", 0),
                           ("Text", 0), ("idle idle", 1), (" text", 0)):
            self.wrong(line, word)

    def test_back(self):
        desk = Desk(Walk.read("stop"))
        desk[0] = "set f"
        desk[0] = "set g"
        for line, word in (("back ", 1), ("back 1", 1), ("backs", 0), ("back\n", 0), (" back", 0)):
            self.wrong(line, word, desk)
        self.assertEqual(desk.ask("back"), "back")
        self.assertEqual(desk.ask("text"), "set f")
        self.assertEqual(desk.run("back", "text"), ["back", "stop"])
        self.stays(desk, NotNow, {"what": "back"}, desk.ask, "back")

    def test_greatest(self):
        for text in (GREATEST, GREATEST_FIT, LARGE):
            desk = Desk(Walk.read(text))
            for line in (*WORDS, *[f"like {name}" for name in NAMES], "bound compares 3 4", "bound puts 1 2", "idle", "text", "play 0 1 2 / 0 2"):
                try:
                    self.assertIs(desk.ask(line).__class__, str)
                except HeadsError as error:
                    self.assertIn(error.__class__, (Unfit, TooLarge))


class RunTests(DeskCase):
    def test_answers(self):
        desk = Desk(Walk.read("if left\n  step left"))
        self.assertEqual(desk.run(), [])
        self.assertEqual(desk.run("inside", "spares left", "play 0 1 / 0"), ["holds, 16 rows", "holds, 16 rows", "-"])
        found = desk.run("text")
        found.clear()
        self.assertEqual(desk.run("text", "text"), ["if left; step left"] * 2)

    def test_errors_take_back(self):
        desk = Desk(Walk.read("stop"))
        for text in ("set f", "set g", "put left\npairs left"):
            desk[0] = text
        before = self.state(desk)
        for lines, kind, fields in ((("back", "back", "keeps"), BadText, {"row": 0, "word": 1}), (("back", "back", "back", "back"), NotNow, {"what": "back"}),
                                    (("text", "bound puts 1 1"), Unfit, {"claim": "pairs"}), (("back", "like sum", ""), BadText, {"row": 0, "word": 0}),
                                    (("like sum", "x"), Unfit, {"claim": "inside"}), (("x", "back"), BadText, {"row": 0, "word": 0})):
            self.stays(desk, kind, fields, desk.run, *lines)
        self.assertEqual(self.state(desk), before)
        self.assertEqual(desk.run("back", "text", "back", "text"), ["back", "set g", "back", "set f"])
        self.assertEqual([str(walk) for walk in changes_of(desk)], ["stop"])


class TrialTests(DeskCase):
    def changed(self):
        desk = Desk(Walk.read("stop"))
        for text in ("set f", "set g", "put left"):
            desk[0] = text
        return desk

    def spoil(self, desk):
        desk[0] = "step left"
        desk.edit(("turn", 0))
        desk.back(3)
        desk.limit = 2
        desk += "set a\nset g"
        desk.limit = 50

    def test_kept(self):
        desk = self.changed()
        with desk.trial() as held:
            self.assertIs(held, desk)
            self.spoil(held)
        self.assertEqual((str(desk.present), desk.limit), ("set g\nset a\nset g", 50))
        self.assertEqual([str(walk) for walk in changes_of(desk)], ["set g", "set f"])

    def test_taken_back(self):
        for error in (Odd(), BadName(1), KeyError(), NotNow("end")):
            desk = self.changed()
            before = self.state(desk)
            with self.assertRaises(error.__class__) as caught:
                with desk.trial():
                    self.spoil(desk)
                    raise error
            self.assertIs(caught.exception, error)
            self.assertEqual(self.state(desk), before)
            self.assertEqual((str(desk.present), desk.limit, len(changes_of(desk))), ("put left", 20, 3))

    def test_refused_within(self):
        desk = self.changed()
        before = self.state(desk)
        with self.assertRaises(BadPlace):
            with desk.trial():
                self.spoil(desk)
                desk[99] = "stop"
        self.assertEqual(self.state(desk), before)

    def test_nested(self):
        desk = self.changed()
        with desk.trial():
            desk[0] = "step left"
            with self.assertRaises(Odd):
                with desk.trial():
                    self.spoil(desk)
                    raise Odd
            self.assertEqual((str(desk.present), desk.limit, len(changes_of(desk))), ("step left", 20, 4))
            with desk.trial():
                desk.limit = 3
        self.assertEqual((str(desk.present), desk.limit, len(changes_of(desk))), ("step left", 3, 3))
        with self.assertRaises(Odd):
            with desk.trial():
                with desk.trial():
                    self.spoil(desk)
                raise Odd
        self.assertEqual((str(desk.present), desk.limit, len(changes_of(desk))), ("step left", 3, 3))

    def test_attempt(self):
        desk = self.changed()
        self.assertEqual(desk.attempt(lambda held: (held is desk, held.ask("text"))), (True, "put left"))
        self.assertIsNone(desk.attempt(deed=self.spoil))
        self.assertEqual(str(desk.present), "set g\nset a\nset g")
        before = self.state(desk)

        def deed(held):
            self.spoil(held)
            raise Odd

        with self.assertRaises(Odd):
            desk.attempt(deed)
        self.assertEqual(self.state(desk), before)
        self.stays(desk, BadText, {"row": 0, "word": 0}, desk.attempt, lambda held: held.run("back", "nothing"))


class ExampleTests(DeskCase):
    def test_examples(self):
        desk = Desk(Walk.read("step left"))
        self.assertEqual(desk.ask("inside"), "breaks on - / -")
        desk.edit(("guard", 0, "left"))
        self.assertEqual(desk.run("inside", "spares left", "play 0 1 / 0"), ["holds, 16 rows", "holds, 16 rows", "-"])
        desk[1] = "put left"
        self.assertEqual(desk.ask("play 0 1 / 0"), "0")
        self.raises(BadText, {"row": 0, "word": 1}, desk.ask, "like sums")


class WholeTests(HeadsCase):
    """The program as a whole: what a desk tells is true of plays on all small rows."""

    def walks(self):
        found = [Walk.sample(name) for name in NAMES] + [Walk.read(ALL_LEFT), Walk.read("step left"), Walk.read("while left\n  put left")]
        return found + walks_by_chance(900, 930, 4)

    def rows_told(self, answer):
        """The two rows of ranks behind ` on ` in an answer."""
        rows = answer.split(" on ")[1].split(" / ")
        return [[] if row == "-" else [int(rank) for rank in row.split(" ")] for row in rows]

    def test_claims(self):
        pairs = short_pairs(4)
        count = {"holds": 0, "breaks": 0}
        for walk in self.walks():
            desk = Desk(walk)
            met = [broken(walk, left, right) for left, right in pairs]
            for word in WORDS:
                answer = desk.ask(word)
                count[answer.split(" ")[0].rstrip(",")] += 1
                if answer.startswith("holds"):
                    self.assertFalse([words for words in met if word in words])
                else:
                    self.assertIn(word, broken(walk, *map(tuple, self.rows_told(answer))))
        self.assertTrue(all(many > 100 for many in count.values()), count)

    def test_alike(self):
        pairs = short_pairs(4)
        count = {"alike": 0, "parted": 0, "refused": 0}
        for walk in self.walks():
            for name in NAMES:
                try:
                    answer = Desk(walk).ask(f"like {name}")
                except (Unfit, TooLarge):
                    count["refused"] += 1
                    continue
                other = Walk.sample(name)
                count[answer.split(" ")[0]] += 1
                if answer == "alike":
                    for left, right in pairs:
                        self.assertEqual(ranks(walk, left, right), ranks(other, left, right))
                else:
                    left, right = self.rows_told(answer)
                    self.assertNotEqual(ranks(walk, left, right), ranks(other, left, right))
        self.assertTrue(all(many > 5 for many in count.values()), count)

    def test_good_edits(self):
        pairs = short_pairs(3)
        claims = ("inside", "ending")
        for text in ("step left", "while left and right\n  if less\n    put left\n    step left\n  else\n    step right", "while left\n  step left\n"
                     "  put right"):
            desk = Desk(Walk.read(text))
            good, bad = mends(desk.present, *claims)
            for edit in [*good, *bad]:
                desk.edit(edit)
                told = all(desk.ask(claim).startswith("holds") for claim in claims)
                self.assertEqual(told, edit in good)
                falls = [pair for pair in pairs if Play(desk.present, Row(list(pair[0])), Row(list(pair[1]))).run(500)[-1][0]
                         in ("behind", "unlike", "endless")]
                if edit in good:
                    self.assertFalse(falls)
                else:
                    left, right = bad[edit]
                    play = Play(desk.present, Row(list(left)), Row(list(right)))
                    play.run(10000)
                    self.assertIsNotNone(play.fall)
                desk.back()

    def test_plays(self):
        for walk in self.walks():
            desk = Desk(walk)
            for left, right in short_pairs(3):
                model = modelled(walk, left, right)
                last = model.events[-1] if model.events else ("end",)
                wanted = row_text([item.rank for item in model.put])
                if last[0] == "behind":
                    wanted += f"; behind {last[2]} at {last[1]}"
                elif last[0] in ("unlike", "endless"):
                    wanted += f"; {last[0]} at {last[1]}"
                self.assertEqual(desk.ask(f"play {row_text(left)} / {row_text(right)}"), wanted)


if __name__ == "__main__":
    unittest.main()
