"""A workshop: a text that is edited row by row, asked, and taken back."""

from slumberway.answers import ran, refuse_asked
from slumberway.coreforms import is_whole
from slumberway.errors import BadRow, Broken, NoBack, NoCount, NoPlace, TooMany
from slumberway.machines import MOST
from slumberway.rowruns import RowRun
from slumberway.runs import Run
from slumberway.texts import Text, settled_groups

MOST_ROWS = 120
LONGEST_ROW = 100
NOTHING = (0, 0, 0)
WAYS = ("name", "shared", "rows")
# Behind so many deeds a state fades.
KEPT = 8


class State:
    """The rows of a workshop between two deeds, with their sums."""

    def __init__(self, lines, sums, ahead):
        self.lines = lines
        # Of each row what its asks cost: gone, made, asked.
        self.sums = sums
        # The state ahead of the last deed.
        self.ahead = ahead
        # The rows as they were looked at, and whether they are a whole text: None where that wasn't asked for.
        self.looked = None
        self.wholeness = None
        # The last whole text ahead, None of none, where it was asked for.
        self.is_led = False
        self.last = None

    def text(self):
        if self.looked is None:
            self.looked = Text(list(self.lines))
        return self.looked

    def is_whole(self):
        if self.wholeness is None:
            self.wholeness = self.text().refused is None
        return self.wholeness

    def fade(self):
        """Let go of what may be found again, so that long rows of deeds don't keep all of it."""
        self.looked = None
        self.is_led = False
        self.last = None

    def last_whole(self):
        """Tell the last text ahead of this one that isn't refused; None where there is none."""
        passed = []
        state = self
        while not state.is_led:
            passed.append(state)
            if state.ahead is None:
                break
            if state.ahead.is_whole():
                state.last = state.ahead.text()
                break
            state = state.ahead
        for one in passed:
            one.last = state.last
            one.is_led = True
        return state.last


class Workshop:
    """A text, at first without rows, that is edited and asked."""

    def __init__(self):
        self.state = State([], [], None)

    def begin(self, lines, sums):
        """Go on with other rows."""
        self.state = State(lines, sums, self.state)
        state = self.state
        for _ in range(KEPT):
            if state.ahead is None:
                return
            state = state.ahead
        state.fade()

    def put(self, at, row):
        """Put a row in ahead of another one, or behind all; NoPlace, BadRow, TooMany."""
        lines = list(self.state.lines)
        refuse_place(at, len(lines) + 1)
        refuse_row(row)
        if len(lines) >= MOST_ROWS:
            raise TooMany()
        sums = list(self.state.sums)
        lines.insert(at - 1, row)
        sums.insert(at - 1, NOTHING)
        self.begin(lines, sums)

    def cut(self, at):
        """Take a row away; NoPlace."""
        lines = list(self.state.lines)
        refuse_place(at, len(lines))
        sums = list(self.state.sums)
        lines.pop(at - 1)
        sums.pop(at - 1)
        self.begin(lines, sums)

    def change(self, at, row):
        """Put another row in the stead of one; NoPlace, BadRow."""
        lines = list(self.state.lines)
        refuse_place(at, len(lines))
        refuse_row(row)
        sums = list(self.state.sums)
        lines[at - 1] = row
        sums[at - 1] = NOTHING
        self.begin(lines, sums)

    def back(self):
        """Take the last put, cut or change back; NoBack where there is none."""
        if self.state.ahead is None:
            raise NoBack()
        self.state = self.state.ahead

    def rows(self):
        return list(self.state.lines)

    def fault(self):
        """Tell None where the text isn't refused, else the word of the refusal's class and its fields."""
        return self.state.text().fault()

    def whole_text(self):
        """Tell the text; Broken where it is refused."""
        text = self.state.text()
        if text.refused is not None:
            raise Broken(text.fault())
        return text

    def kinds(self):
        return self.whole_text().kinds()

    def kind_at(self, address):
        return self.whole_text().kind_at(address)

    def core(self):
        places, data, tops = self.whole_text().program(False)
        return (list(places), dict(data), list(tops))

    def ask(self, name, *, depth=20, most=MOST, way="shared", turned=False):
        """Tell the answer of a top and what it costs, and add that to the rows' sums."""
        text = self.whole_text()
        program = text.right_program(bool(turned))
        refuse_asked([x for x, _ in program[2]], name, depth, most)
        if way not in WAYS:
            raise NoCount()
        if way == "rows":
            run = RowRun(text.row_list(bool(turned)), most)
        else:
            run = Run(program, most, way == "shared", None)
        answer, costs = ran(run, name, depth)
        sums = self.state.sums
        for p, gone, made, asked in costs:
            row = program[0][p][0] - 1
            sums[row] = (sums[row][0] + gone, sums[row][1] + made, sums[row][2] + asked)
        return (answer, costs)

    def settled(self):
        """Tell the groups, lists of names, that were looked at anew behind the last deed."""
        state = self.state
        if state.ahead is None or not state.is_whole():
            return []
        return settled_groups(state.text(), state.last_whole())

    def costs(self):
        """Tell the sums (row, gone, made, asked) of all asks, of the rows of which one isn't 0."""
        return [(row, *counts) for row, counts in enumerate(self.state.sums, start=1) if counts != NOTHING]


def refuse_place(at, most):
    if not is_whole(at) or not 1 <= at <= most:
        raise NoPlace()


def refuse_row(row):
    """Refuse what is no text of signs from the blank to ~, of at most a hundred."""
    if not isinstance(row, str) or len(row) > LONGEST_ROW or not row.isascii() or row and not row.isprintable():
        raise BadRow()
