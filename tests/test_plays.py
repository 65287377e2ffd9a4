import unittest
from itertools import product

from helpers import ODD_VALUES, HeadsCase, named, told
from model import GREATEST, Maker, Model
from twoheads.errors import BadWalk, Behind, Endless, NotNow, Unlike
from twoheads.items import Item
from twoheads.plays import Play
from twoheads.rows import Row
from twoheads.walks import Walk

NAMES = ("sum", "union", "both", "lacks", "xor", "join")
TOLD = ("stand", "put", "flags", "cursors", "compares", "over")
KINDS = {"behind": Behind, "unlike": Unlike, "endless": Endless}
FULL = ("while left\n  if right and new left and not more\n    put left\n    set g\n  else\n    break\n"
        "  step left\n  clear g\nset f\nif left and right and equal\n  pairs right\nstop")


def play_of(text, left=(), right=()):
    return Play(Walk.read(text), Row(left), Row(right))


def all_told(play):
    """Everything that a play tells."""
    fall = play.fall
    return ([(item.rank, item.name) for item in play.put], play.cursors, play.compares, play.flags,
            play.over, fall and (fall.__class__, vars(fall)), play.stand)


def turned(value):
    """An event or a stand with the sides exchanged."""
    exchanged = {"left": "right", "right": "left", "less": "more", "more": "less"}
    return tuple(exchanged.get(part, part) for part in value)


class PlayCase(HeadsCase):
    def is_at(self, play, seen, fall=None):
        """Checks that a play tells what the model has seen."""
        for name in TOLD:
            self.same_kinds_but_items(getattr(play, name), seen[name])
        if fall is None:
            self.assertIsNone(play.fall)
        else:
            self.assertIs(play.fall.__class__, KINDS[fall[0]])
            self.assertEqual(vars(play.fall), dict(zip(("line", "side"), fall[1:])))

    def same_kinds_but_items(self, found, wanted):
        if isinstance(found, list):
            self.assertEqual([id(item) for item in found], [id(item) for item in wanted])
        else:
            self.same_kinds(found, wanted)

    def is_over(self, play):
        """Checks that nothing can be done, and that trying changes nothing."""
        before = all_told(play)
        for _ in range(3):
            self.raises(NotNow, {"what": "end"}, play.do)
            self.assertEqual(play.run(), [])
            self.assertEqual(play.run(5), [])
            self.assertEqual(list(play.events()), [])
            self.assertEqual(all_told(play), before)

    def watch(self, walk, left, right):
        """Does all statements one by one, and compares each moment with the model."""
        model = Model(walk.parts, left, right)
        _, fall = model.run()
        play = Play(walk, Row(left), Row(right))
        self.is_at(play, model.seen[0])
        for k, event in enumerate(model.events):
            self.assertIs(play.over, False)
            self.same_kinds(play.do(), event)
            self.is_at(play, model.seen[k + 1], fall if k == len(model.events) - 1 else None)
        self.is_over(play)
        return play, model, fall


class DoTests(PlayCase):
    def test_usual_walks_on_all_small_rows(self):
        rows = [[], [1], [1, 1], [1, 2], [2, 2, 3], [0, 1, 1]]
        for name, left, right in product(NAMES, rows, rows):
            self.watch(Walk.sample(name), [Item(k, "a") for k in left], [Item(k, "b") for k in right])

    def test_walks_by_chance(self):
        falls = {"behind": 0, "unlike": 0, "endless": 0, None: 0}
        for seed in range(250):
            maker = Maker(seed)
            try:
                walk = Walk(*maker.block(0, False, 4))
            except BadWalk:
                continue
            for _ in range(6):
                left, right = [Item(k) for k in maker.row()], [Item(k) for k in maker.row()]
                _, model, fall = self.watch(walk, left, right)
                falls[fall and fall[0]] += 1
                self.turned_alike(walk, left, right, model)
        self.assertTrue(all(many > 20 for many in falls.values()), falls)

    def turned_alike(self, walk, left, right, model):
        """Checks the run of the exchanged walk on the exchanged rows."""
        play = Play(-walk, Row(right), Row(left))
        for k, event in enumerate(model.events):
            found = play.do()
            if event[0] == "behind" and self.needs_both(walk, event, model.seen[k]):
                self.assertEqual((event[2], found), ("left", event))
            elif event[0] == "pairs":
                kind, line, side, i, j, m, n = event
                self.assertEqual(found, (kind, line, turned((side,))[0], j, i, n, m))
            else:
                self.assertEqual(found, turned(event))
            self.assertEqual(play.cursors, model.seen[k + 1]["cursors"][::-1])
            self.assertEqual(play.compares, model.seen[k + 1]["compares"])
        self.is_over(play)

    def needs_both(self, walk, event, seen):
        """Whether both rows are needed and ended at the moment ahead of a fall behind."""
        if seen["stand"][2] != "none":
            return False
        part = walk[event[1]]
        if part.word in ("put", "step"):
            return False
        return part.word == "pairs" or self.last_word(part.test, seen["flags"]) in ("less", "equal", "more")

    def last_word(self, test, flags):
        """The word of a test at which a run falls when both rows are ended."""
        asked = []

        def look(word):
            asked.append(word)
            if word in ("less", "equal", "more", "new left", "new right"):
                raise KeyError(word)
            return word in flags

        with self.assertRaises(KeyError):
            test(look)
        return asked[-1]

    def test_greatest(self):
        walk = Walk.read(GREATEST)
        maker = Maker(3)
        for _ in range(60):
            self.watch(walk, [Item(k) for k in maker.row(8, 5)], [Item(k) for k in maker.row(8, 5)])

    def test_each_event(self):
        play = play_of(FULL, named("1a", "3b", "3c"), named("2x", "3y", "3z"))
        self.same_kinds(play.run(), [
            ("test", 0, True), ("test", 1, True), ("put", 2, "left", 0), ("set", 3, "g"),
            ("step", 5, "left", 0), ("clear", 6, "g"), ("test", 0, True), ("test", 1, False), ("break", 4),
            ("set", 7, "f"), ("test", 8, False), ("stop", 10),
        ])
        self.same_kinds(play.stand, (11, ("f",), "more", "below", "below"))
        self.assertEqual(told(play.put), ["1a"])
        play = play_of(FULL, named("1a", "3b", "3c"), named("3x", "3y", "3z"))
        self.same_kinds(play.run()[-5:], [("break", 4), ("set", 7, "f"), ("test", 8, True),
                                          ("pairs", 9, "right", 2, 0, 1, 3), ("stop", 10)])
        self.assertEqual(told(play.put), "1a 3b 3x 3y 3z".split())
        play = play_of("step left\nif equal\n  pairs right\nput left",
                       named("1a", "3b", "3c", "4d"), named("3x", "3y", "3z"))
        self.same_kinds(play.run(), [("step", 0, "left", 0), ("test", 1, True),
                                     ("pairs", 2, "right", 1, 0, 2, 3), ("put", 3, "left", 3)])
        self.assertEqual(told(play.put), "3x 3x 3y 3y 3z 3z 4d".split())
        self.same_kinds(play.cursors, (3, 3))
        self.same_kinds(play.stand, (4, (), "left", "equal", "-"))

    def test_own_lists(self):
        play = play_of("put left\nput right", named("1a"), named("1b"))
        play.do()
        found = play.put
        found.clear()
        self.assertEqual(told(play.put), ["1a"])
        self.assertIsNot(play.put, play.put)
        play.run().clear()
        self.assertEqual(told(play.put), ["1a", "1b"])

    def test_great_ranks_and_names(self):
        great = 10 ** 30 - 1
        left = [Item(-great, "abcdefgh"), Item(0), Item(great, "z")]
        right = [Item(-great), Item(-1, "q"), Item(great - 1, "zz")]
        play, _, _ = self.watch(Walk.sample("sum"), left, right)
        self.assertEqual(told(play.put), [f"-{great}abcdefgh", f"-{great}", "-1q", "0", f"{great - 1}zz", f"{great}z"])

    def test_items_behind_play_no_part(self):
        for tail in ((), (9,), (3, 9), (9, 9, 10)):
            play = play_of("if left and right and less\n  put left\n  step right\nstop", [1, 2, *tail], [3, 3, *tail])
            self.assertEqual(play.run(), [("test", 0, True), ("put", 1, "left", 0), ("step", 2, "right", 0), ("stop", 3)])

    def test_full_rows(self):
        play = play_of("pairs left", [3] * 200, [3] * 200)
        self.assertEqual(play.do(), ("pairs", 0, "left", 0, 0, 200, 200))
        self.assertEqual(len(play.put), 40000)
        play = Play(Walk.sample("sum"), Row([3] * 200), Row([3] * 200))
        self.assertEqual(len(list(play.events())), 4 * 400 + 1)


class RunTests(PlayCase):
    def test_pieces(self):
        walk = Walk.sample("union")
        left, right = Row([1, 1, 4, 6]), Row([1, 2, 4, 4, 9])
        whole = Play(walk, left, right).run()
        self.assertGreater(len(whole), 30)
        for size in (1, 2, 3, 7, len(whole) - 1, len(whole), len(whole) + 1, 1000):
            play = Play(walk, left, right)
            found = []
            while not play.over:
                piece = play.run(size)
                self.assertEqual(len(piece), min(size, len(whole) - len(found)))
                found.extend(piece)
            self.assertEqual(found, whole)
            self.is_over(play)
        play = Play(walk, left, right)
        self.assertEqual(play.run(0), [])
        self.assertEqual(play.run(most=0), [])
        self.assertEqual(play.run(most=2), whole[:2])

    def test_a_thousand(self):
        play = play_of("while left\n  set f\n  clear f\n  set g\n  clear g\n  step left", [1] * 200)
        self.assertEqual([len(play.run()), len(play.run()), len(play.run())], [1000, 201, 0])

    def test_events(self):
        walk = Walk.sample("xor")
        left, right = Row([1, 1, 4, 6]), Row([1, 2, 4, 4, 9])
        whole = Play(walk, left, right).run()
        self.assertEqual(list(Play(walk, left, right).events()), whole)
        play = Play(walk, left, right)
        found = []
        for event in play.events():
            found.append(event)
            self.assertEqual(play.over, len(found) == len(whole))
            if len(found) == 4:
                break
        found.append(play.do())
        found.extend(play.run(2))
        steps = play.events()
        found.append(next(steps))
        found.append(play.do())
        found.append(next(steps))
        found.extend(play.run(3))
        found.extend(steps)
        self.assertEqual(found, whole)
        self.is_over(play)

    def test_events_are_done_as_they_come(self):
        play = play_of("set f\nclear f\nstop")
        steps = play.events()
        self.assertEqual(play.flags, ())
        next(steps)
        self.assertEqual((play.flags, play.stand[0]), (("f",), 1))
        play.undo()
        self.assertEqual(next(steps), ("set", 0, "f"))


class FallTests(PlayCase):
    def falls(self, event, text, left=(), right=()):
        """Checks that the last event of a run is this fall."""
        play = play_of(text, left, right)
        events = play.run()
        self.same_kinds(events[-1], event)
        self.assertEqual([done for done in events[:-1] if done[0] in KINDS], [])
        self.assertIs(play.over, True)
        self.assertIsNone(play.stand)
        self.assertIs(play.fall.__class__, KINDS[event[0]])
        self.assertEqual(vars(play.fall), dict(zip(("line", "side"), event[1:])))
        self.assertIsNot(play.fall, play.fall)
        self.is_over(play)
        return play

    def test_behind_by_statements(self):
        for word in ("put", "step"):
            for side, other in (("left", "right"), ("right", "left")):
                rows = {other: (1,), side: ()}
                self.falls(("behind", 1, side), f"set f\n{word} {side}", rows["left"], rows["right"])
                self.falls(("behind", 1, side), f"set f\n{word} {side}")
        for side in ("left", "right"):
            self.falls(("behind", 0, "left"), f"pairs {side}")
            self.falls(("behind", 0, "left"), f"pairs {side}", (), (1,))
            self.falls(("behind", 0, "right"), f"pairs {side}", (1,))

    def test_behind_by_words(self):
        for branch, negation, word in product(("if", "while"), ("", "not "), ("less", "equal", "more")):
            text = f"set f\n{branch} f and {negation}{word}\n  stop"
            self.falls(("behind", 1, "left"), text)
            self.falls(("behind", 1, "left"), text, (), (1,))
            self.falls(("behind", 1, "right"), text, (1,))
        for branch, negation in product(("if", "while"), ("", "not ")):
            for side, other in (("left", "right"), ("right", "left")):
                text = f"set f\n{branch} g or {negation}new {side}\n  stop"
                rows = {other: (1,), side: ()}
                self.falls(("behind", 1, side), text)
                self.falls(("behind", 1, side), text, rows["left"], rows["right"])

    def test_unlike(self):
        for side in ("left", "right"):
            self.falls(("unlike", 1), f"set f\npairs {side}", (1,), (2,))
            self.falls(("unlike", 0), f"pairs {side}", (2,), (1, 2))

    def test_endless(self):
        play = self.falls(("endless", 0), "while left\n  put left", (1,))
        self.assertEqual(told(play.put), ["1", "1"])
        play = self.falls(("endless", 0), "while not left\n  set f")
        self.assertEqual(play.flags, ("f",))
        self.falls(("endless", 2), "step left\nset f\nwhile f\n  put left", (1, 1))
        self.falls(("endless", 4), "while left\n  if f\n    step left\n  else\n    set f\nwhile right\n  set g",
                   (1, 2), (3,))

    def test_endless_at_the_first_that_comes_again(self):
        play = play_of("while left\n  put left\n  put right", (1,), (2,))
        self.assertEqual(play.run(), [
            ("test", 0, True), ("put", 1, "left", 0), ("put", 2, "right", 0), ("test", 0, True),
            ("put", 1, "left", 0), ("endless", 2),
        ])
        self.assertEqual(told(play.put), ["1", "2", "1"])
        self.assertEqual((play.fall.line, play.stand), (2, None))

    def test_what_was_done_before_stays(self):
        play = self.falls(("behind", 2, "right"), "put left\nset f\nif new left or equal and new right\n  stop",
                          named("1a"))
        self.assertEqual((told(play.put), play.compares, play.flags, play.cursors), (["1a"], 1, ("f",), (0, 0)))
        play = self.falls(("behind", 3, "left"), "put left\nstep left\nput right\nput left", named("1a"), named("2b"))
        self.assertEqual((told(play.put), play.cursors), (["1a", "2b"], (1, 0)))
        play = self.falls(("unlike", 1), "step left\npairs left", (1, 2), (3,))
        self.assertEqual((play.put, play.cursors), ([], (1, 0)))


class CompareTests(PlayCase):
    def compares(self, many, text, left=(), right=()):
        play = play_of(text, left, right)
        play.run()
        self.same_kinds(play.compares, many)

    def test_words_that_count(self):
        for word in ("less", "equal", "more", "new left", "new right"):
            for text in (word, f"not {word}"):
                for left, right in (((1,), (2,)), ((2,), (1,)), ((1,), (1,))):
                    self.compares(1, f"if {text}\n  stop", left, right)
        for word in ("left", "right", "f", "not left", "not right", "not f"):
            self.compares(0, f"if {word}\n  stop", (1,), (2,))
        self.compares(0, "put left\npairs left\nset f\nclear f\nstop", (1,), (1,))

    def test_words_that_are_not_asked(self):
        self.compares(1, "if more and equal and less\n  stop", (1,), (2,))
        self.compares(2, "if less and equal and more\n  stop", (1,), (2,))
        self.compares(3, "if more or equal or less or new left\n  stop", (1,), (2,))
        self.compares(1, "if less or equal or more\n  stop", (1,), (2,))
        self.compares(3, "if f and more or not f and more and left or new left and g or less\n  stop", (1,), (2,))
        self.compares(0, "if f and less or right and more\n  stop", (1,))
        self.compares(2, "if not f and not less or new right and right\n  stop", (1,), (2,))

    def test_words_that_fall(self):
        for word in ("less", "equal", "more", "new left"):
            self.compares(0, f"if {word}\n  stop", (), (1,))
        for word in ("less", "equal", "more", "new right"):
            self.compares(0, f"if {word}\n  stop", (1,))
            self.compares(1, f"if new left and not {word}\n  stop", (1,))
        self.compares(2, "put left\nstep right\nif new left or not new left and less\n  stop", (1,), (1,))

    def test_each_time(self):
        self.compares(6, "while left and right and equal\n  step left\n  step right", [1] * 6, [1] * 9)


class UndoTests(PlayCase):
    def all_moments(self, play):
        """What a play tells at each moment of its run, and its events."""
        seen = [all_told(play)]
        events = []
        while not play.over:
            events.append(play.do())
            seen.append(all_told(play))
        return seen, events

    def each_way(self, play):
        """Takes back so and so many events and does them again, from the end and from within."""
        seen, events = self.all_moments(play)
        last = len(events)
        for count in range(last + 1):
            play.undo(count)
            self.assertEqual(all_told(play), seen[last - count])
            self.assertEqual(play.run(), events[last - count:])
            self.assertEqual(all_told(play), seen[last])
        at = last
        for down, up in ((1, 0), (0, 0), (2, 1), (last // 2, 1), (1, 1), (0, 3), (3, 2), (1, 2), (2, 0)):
            if down > at:
                continue
            play.undo(count=down)
            at -= down
            found = play.run(up)
            self.assertEqual(found, events[at:at + up])
            at += len(found)
            self.assertEqual(all_told(play), seen[at])
            self.refuses(play, at)
        for k in reversed(range(at)):
            self.assertIsNone(play.undo())
            self.assertEqual(all_told(play), seen[k])
        self.refuses(play, 0)

    def refuses(self, play, many):
        before = all_told(play)
        for count in (many + 1, many + 2, 10 ** 59, -1, -2, -(10 ** 59)):
            self.raises(NotNow, {"what": "undo"}, play.undo, count)
            self.assertEqual(all_told(play), before)
        play.undo(0)
        self.assertEqual(all_told(play), before)

    def test_ends(self):
        for name in NAMES:
            self.each_way(Play(Walk.sample(name), Row(named("1a", "1b", "2c", "5d")), Row(named("1x", "3y"))))

    def test_falls(self):
        self.each_way(play_of("put left\nset f\nstep left\nput right\nput left", named("1a"), named("2b")))
        self.each_way(play_of("set f\nif equal or not equal\n  pairs left", (1,), (2,)))
        self.each_way(play_of("while left\n  put left\n  put right", named("1a"), named("2b")))
        self.each_way(play_of("while left or f\n  set f\n  set g\n  if left\n    step left", (1, 1)))
        self.each_way(play_of("pairs left"))

    def test_by_chance(self):
        for seed in range(120):
            maker = Maker(seed)
            try:
                walk = Walk(*maker.block(0, False, 3))
            except BadWalk:
                continue
            play = Play(walk, Row(maker.row()), Row(maker.row()))
            if len(list(play.events())) < 60:
                play.undo(play.state)
                self.each_way(play)

    def test_endless_again(self):
        play = play_of("while left\n  put left\n  put right", (1,), (2,))
        play.run()
        for count in range(7):
            play.undo(count)
            self.assertEqual(play.run()[-1:], [("endless", 2)] if count else [])
        play.undo(6)
        self.assertEqual([play.do() for _ in range(6)][-1], ("endless", 2))


class TrialTests(PlayCase):
    def play(self):
        play = play_of("put left\nset f\nstep left\nput right\nput left", named("1a"), named("2b"))
        play.run(2)
        return play

    def test_what_stays(self):
        play = self.play()
        with play.trial() as held:
            self.assertIs(held, play)
            self.assertEqual(play.run(), [("step", 2, "left", 0), ("put", 3, "right", 0), ("behind", 4, "left")])
        self.assertEqual((play.over, play.fall.line), (True, 4))
        play.undo(5)
        self.assertEqual(play.stand[0], 0)

    def test_what_does_not_stay(self):
        for error in (KeyError, NotNow, Exception, KeyboardInterrupt):
            play = self.play()
            before = all_told(play)
            with self.assertRaises(error) as caught:
                with play.trial():
                    play.run()
                    play.undo(4)
                    play.run(1)
                    raise error("x")
            self.assertIs(caught.exception.__class__, error)
            self.assertEqual(all_told(play), before)
            self.raises(NotNow, {"what": "undo"}, play.undo, 3)
            self.assertEqual(play.run(), [("step", 2, "left", 0), ("put", 3, "right", 0), ("behind", 4, "left")])
            play.undo(5)
            self.raises(NotNow, {"what": "undo"}, play.undo, 1)

    def test_errors_of_the_play(self):
        play = self.play()
        before = all_told(play)
        with self.assertRaises(NotNow) as caught:
            with play.trial():
                for _ in range(9):
                    play.do()
        self.assertEqual(caught.exception.what, "end")
        self.assertEqual(all_told(play), before)

    def test_fall_taken_back(self):
        play = self.play()
        play.run()
        before = all_told(play)
        with self.assertRaises(KeyError):
            with play.trial():
                play.undo(4)
                raise KeyError
        self.assertEqual(all_told(play), before)
        self.is_over(play)

    def test_nested(self):
        play = self.play()
        with play.trial():
            play.do()
            with self.assertRaises(KeyError):
                with play.trial():
                    play.undo(3)
                    with play.trial():
                        play.do()
                    raise KeyError
            self.assertEqual(play.stand[0], 3)
            play.do()
        self.assertEqual(play.stand[0], 4)
        with self.assertRaises(KeyError):
            with play.trial():
                with play.trial():
                    play.undo(4)
                raise KeyError
        self.assertEqual(play.stand[0], 4)
        play.undo(4)

    def test_attempt(self):
        play = self.play()
        self.assertEqual(play.attempt(lambda held: (held is play, held.do())), (True, ("step", 2, "left", 0)))
        self.assertEqual(play.stand[0], 3)
        before = all_told(play)

        def deed(held):
            held.undo(2)
            raise ZeroDivisionError

        with self.assertRaises(ZeroDivisionError):
            play.attempt(deed=deed)
        self.assertEqual(all_told(play), before)
        self.assertIsNone(play.attempt(lambda held: None))
        self.assertEqual(play.attempt(lambda held: held.attempt(lambda inner: inner.run())), [
            ("put", 3, "right", 0), ("behind", 4, "left")])
        self.raises(NotNow, {"what": "undo"}, play.attempt, lambda held: held.undo(9))


class ApartTests(PlayCase):
    def test_plays_by_turns(self):
        walk = Walk.sample("union")
        left, right = Row([1, 1, 4, 6]), Row([1, 2, 4, 4, 9])
        whole = Play(walk, left, right).run()
        plays = [Play(walk, left, right) for _ in range(4)]
        found = [[] for _ in plays]
        for turn in range(200):
            play = plays[turn % 4]
            found[turn % 4].extend(play.run(turn % 4 + 1 if turn % 3 else 1))
            if turn == 50:
                play.undo(3)
                del found[turn % 4][-3:]
        self.assertEqual(found, [whole] * 4)
        self.assertEqual((left.ranks(), right.ranks()), ([1, 1, 4, 6], [1, 2, 4, 4, 9]))

    def test_rows_that_change(self):
        walk = Walk.sample("sum")
        left, right = Row([1, 4]), Row([2])
        play = Play(walk=walk, left=left, right=right)
        play.run(3)
        left += [0]
        right[0] = 7
        left.settle(lambda item: -item.rank)
        events = play.run()
        self.assertEqual([item.rank for item in play.put], [1, 2, 4])
        self.assertEqual(events, Play(walk, Row([1, 4]), Row([2])).run()[3:])
        self.assertEqual((left.ranks(), right.ranks()), ([0, 1, 4], [7]))

    def test_equal_to_nothing_of_another_kind(self):
        play = play_of("stop")
        for value in (*ODD_VALUES, play_of("stop").walk):
            self.assertIs(play == value, False)

    def test_example(self):
        union = Walk.sample("union")
        play = Play(union, Row([1, 1]), Row([1]))
        self.same_kinds(play.run(3), [("test", 0, True), ("test", 1, False), ("test", 4, False)])
        self.same_kinds(play.stand, (7, (), "equal", "none", "none"))
        self.same_kinds([play.run()[-1], play.compares, play.cursors], [("test", 13, False), 2, (2, 1)])
        self.assertIsNone(play.undo(4))
        self.same_kinds((play.stand, len(play.put)), ((11, (), "left", "equal", "-"), 1))


if __name__ == "__main__":
    unittest.main()
