"""Runs of a walk on two rows."""

from twoheads.errors import Behind, Endless, Unlike
from twoheads.parts import Branch
from twoheads.views import View, with_flag, without_flag
from twoheads.words import NEWS, ORDERS


class Run:
    """A run on two lists of items: where it is, what it has put, and how often it compared."""

    def __init__(self, walk, left, right):
        self.walk = walk
        self.ahead = {"left": list(left), "right": list(right)}
        self.cursor = {"left": 0, "right": 0}
        self.output = []
        self.compared = 0
        self.raised = ()
        self.line = 0
        # The moments since the last item was passed: one that comes again never ends.
        self.met = {}

    def head_at(self, side):
        """The head of a side, or None."""
        at = self.cursor[side]
        if at < len(self.ahead[side]):
            return self.ahead[side][at]
        return None

    def view(self):
        """What the walk sees now."""
        last = self.output[-1] if self.output else None
        left = self.head_at("left")
        right = self.head_at("right")
        return View(rank_of(left), rank_of(right), rank_of(last), self.raised)

    def to_end(self):
        """Does all that is left, and returns the list of the items that were put."""
        while self.line < len(self.walk):
            self.do_line()
        return self.output

    def do_line(self):
        """Does the next statement and returns its event; raises Endless instead of going round."""
        view = self.view()
        self.meet(view)
        return self.do_seen(view)

    def do_seen(self, view):
        """Does the next statement, at which the walk sees this, and returns its event."""
        line = self.line
        part = self.walk[line]
        if_true, if_false = self.walk.jumps[line]
        if isinstance(part, Branch):
            truth = part.test(lambda word: self.asked(view, word))
            self.line = if_true if truth else if_false
            return ("test", line, truth)
        deed = DEEDS[part.word]
        event = deed(self, part, view)
        self.line = if_true
        return event

    def asked(self, view, word):
        """Whether a word of a test is true; counts it if it is a comparison."""
        truth = view.answer(self.line, word)
        if word in ORDERS or word in NEWS:
            self.compared = self.compared + 1
        return truth

    def meet(self, view):
        """Raises Endless at a moment that was there before, since an item was passed."""
        moment = (self.line, view.raised, view.last)
        if moment in self.met:
            raise Endless(self.line)
        self.met[moment] = True

    def doubles(self, side, rank):
        """The list of the next items of a side that have the rank."""
        items = self.ahead[side][self.cursor[side]:]
        return [item for item in items if item.rank == rank]

    def move(self, side, many):
        """Passes so many items of a side."""
        self.cursor[side] = self.cursor[side] + many
        self.met = {}


def told_event(run):
    """Does the next statement of a run; returns its event, or the fall there."""
    try:
        return run.do_line()
    except Behind as fall:
        return ("behind", fall.line, fall.side)
    except Unlike as fall:
        return ("unlike", fall.line)
    except Endless as fall:
        return ("endless", fall.line)


def rank_of(item):
    """The rank of an item, or None."""
    if item is None:
        return None
    return item.rank


def do_put(run, part, view):
    """Puts the head of a side."""
    side = part.side
    view.need(run.line, side)
    run.output.append(run.head_at(side))
    return ("put", run.line, side, run.cursor[side])


def do_step(run, part, view):
    """Passes the head of a side."""
    side = part.side
    view.need(run.line, side)
    passed = run.cursor[side]
    run.move(side, 1)
    return ("step", run.line, side, passed)


def do_pairs(run, part, view):
    """Puts the doubles of a side once for each of the other one, and passes all of them."""
    view.need_both(run.line)
    if view.left != view.right:
        raise Unlike(run.line)
    of_left = run.doubles("left", view.left)
    of_right = run.doubles("right", view.left)
    i, j, m, n = run.cursor["left"], run.cursor["right"], len(of_left), len(of_right)
    if part.side == "left":
        run.output.extend([item for item in of_left for _ in of_right])
    else:
        run.output.extend([item for item in of_right for _ in of_left])
    run.move("left", m)
    run.move("right", n)
    return ("pairs", run.line, part.side, i, j, m, n)


def do_set(run, part, view):
    """Sets a flag."""
    run.raised = with_flag(view.raised, part.flag)
    return ("set", run.line, part.flag)


def do_clear(run, part, view):
    """Clears a flag."""
    run.raised = without_flag(view.raised, part.flag)
    return ("clear", run.line, part.flag)


def do_jump(run, part, view):
    """Changes nothing: where `break` and `stop` lead is told by the jumps of the walk."""
    return (part.word, run.line)


DEEDS = {
    "put": do_put, "step": do_step, "pairs": do_pairs, "set": do_set, "clear": do_clear,
    "break": do_jump, "stop": do_jump,
}
