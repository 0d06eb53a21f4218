"""The machine that goes by numbered rows, with a pile of what is still to be done with heads.

A head is a tuple: ("num", p, n), ("con", p, C, things), ("fun", p, at, spots given, row, spots): a list of spots, of
which those from at on are still to be given, copied at each call. A waiting thing is a cell, a list: its head, or None
where it wasn't asked yet and False while it is; its row's number, the spots that it goes by, the place of its let.
"""

from slumberway.coreforms import TOO_GREAT
from slumberway.runs import LONG, MOST_ASKS, TRUTHS, RunEnd, worked

# Of rows that go by another one first, where that one's number stands.
FIRST_ROWS = {"case": 2, "deed": 3}


class RowRun:
    """A run by rows, and what it counted so far at each place."""

    __slots__ = ("rows", "gone", "made", "asked", "left", "asks", "pile", "numbers", "tops")

    def __init__(self, rows, most):
        self.rows = rows
        _, _, _, places, tops = rows[0]
        self.gone = [0] * places
        self.made = [0] * places
        self.asked = [0] * places
        # How many rows may still be gone by, and how many asks are being worked.
        self.left = most
        self.asks = 0
        self.pile = []
        begins = rows[1:1 + tops]
        self.numbers = {x: number for number, (_, _, x, _, _) in enumerate(begins)}
        told = [(rows[number], number, [None] * spots) for _, _, _, number, spots in begins]
        self.tops = [thing_of(row, number, spots, None) for row, number, spots in told]
        for thing, (row, _, spots) in zip(self.tops, told):
            self.fill(thing, row, spots)

    def top(self, x):
        """Tell what a top stands for."""
        return self.tops[self.numbers[x]]

    def things(self, head):
        """Tell the list of what a maker's parts stand for."""
        return head[3]

    def stand(self, atoms, spots):
        """Tell the list of what some atoms stand for."""
        tops = self.tops
        return [spots[atom[2]] if atom[0] == "own" else tops[atom[2]] if atom[0] == "top" else atom for atom in atoms]

    def fill(self, thing, row, spots):
        """Give a maker's head, or a function, what its row names; all of that stands for something by now."""
        if row[0] == "con":
            thing[3].extend(self.stand(row[3:], spots))
        elif row[0] == "fun":
            for (_, _, spot, _), kept in zip(row[5:], self.stand([keep[3] for keep in row[5:]], spots)):
                thing[5][spot] = kept

    def head(self, thing):
        """Tell the head of a thing; that is no ask."""
        if not isinstance(thing, list):
            return thing
        if not thing[0]:
            thing[0] = False
            thing[0] = self.work(self.rows[thing[1]], thing[2])
        return thing[0]

    def work(self, row, spots):
        """Go by a row to its head."""
        rows, gone, tops, pile = self.rows, self.gone, self.tops, self.pile
        while True:
            if self.left == 0:
                raise RunEnd(LONG)
            self.left -= 1
            gone[row[1]] += 1
            word = row[0]
            if word == "own" or word == "top":
                head = spots[row[2]] if word == "own" else tops[row[2]]
                if isinstance(head, list):
                    if not head[0]:
                        row, spots = self.ask(row[1], head)
                        continue
                    head = head[0]
            elif word in FIRST_ROWS:
                pile.append((word, row, spots))
                row = rows[row[FIRST_ROWS[word]]]
                continue
            elif word == "num":
                head = row
            elif word == "con" or word == "fun":
                head = thing_of(row, None, spots, None)
                self.fill(head, row, spots)
            else:
                begin = BEGIN[word]
                row, spots = begin(self, row, spots)
                continue
            row = None
            while row is None:
                if not pile:
                    return head
                frame = pile.pop()
                back = BACK[frame[0]]
                row, spots = back(self, head, frame)
                if row is None:
                    head = spots

    def ask(self, p, cell):
        """Count an ask of a waiting thing; tell what is gone by next."""
        self.count_ask(p)
        if cell[0] is False:
            raise RunEnd(LONG)
        cell[0] = False
        self.pile.append(("ask", p, cell))
        return (self.rows[cell[1]], cell[2])

    def count_ask(self, p):
        self.asked[p] += 1
        if self.asks == MOST_ASKS:
            raise RunEnd(LONG)
        self.asks += 1

    def give(self, head, things, p):
        """Give things to a function; tell what is gone by next."""
        if head[0] != "fun":
            raise RunEnd(self.fault("kind", p))
        _, place, at, many, number, spots = head
        spots = list(spots)
        end = at + len(things)
        if end <= many:
            spots[at:end] = things
        else:
            spots[at:many] = things[:many - at]
            self.pile.append(("give", p, things[many - at:]))
        if end < many:
            return (None, ("fun", place, end, many, number, spots))
        return (self.rows[number], spots)

    def fault(self, word, p):
        """Tell a fault, with the asks that are being worked."""
        way = []
        for frame in self.pile:
            if frame[0] == "ask":
                way.append((frame[1], frame[2][3]))
            elif frame[0] == "early":
                way.append((frame[1][4], frame[1][1]))
            elif frame[0] == "now":
                way.append((frame[1][1], frame[1][2]))
        return ("fault", word, p, tuple(way))


def thing_of(row, number, spots, p):
    """Tell what a row bound to a name stands for: a head, still to be filled, or a waiting thing."""
    word = row[0]
    if word == "num":
        return row
    if word == "con":
        return (word, row[1], row[2], [])
    if word == "fun":
        return (word, row[1], 0, row[2], row[3], [None] * row[4])
    return [None, number, spots, p]


# What comes of a row: the row that is gone by next and its spots; None and a head where it tells that one.

def begin_call(run, row, spots):
    run.pile.append(("call", row, spots))
    return (row[2], spots)


def begin_let(run, row, spots):
    bound = [(run.rows[number], spot, number) for _, _, spot, number in row[3:]]
    p = row[1]
    for inner, spot, number in bound:
        thing = thing_of(inner, number, spots, p)
        spots[spot] = thing
        if isinstance(thing, list):
            run.made[p] += 1
    for inner, spot, _ in bound:
        run.fill(spots[spot], inner, spots)
    return (run.rows[row[2]], spots)


def begin_fault(run, row, spots):
    raise RunEnd(run.fault(row[2], row[1]))


def begin_early(run, row, spots):
    run.count_ask(row[4])
    run.pile.append(("early", row, spots))
    return (run.rows[row[3]], spots)


def begin_now(run, row, spots):
    run.count_ask(row[1])
    run.pile.append(("now", row))
    return (run.rows[row[3]], spots)


def back_call(run, head, frame):
    _, row, spots = frame
    return run.give(head, run.stand(row[3:], spots), row[1])


def back_give(run, head, frame):
    _, p, things = frame
    return run.give(head, things, p)


def back_case(run, head, frame):
    _, row, spots = frame
    _, p, _, spot, other = row[:5]
    if head[0] == "fun":
        raise RunEnd(run.fault("kind", p))
    spots[spot] = head
    for alternative in row[5:]:
        if alternative[2] == head[2]:
            if len(alternative) > 4:
                for at, thing in zip(alternative[4:], head[3]):
                    spots[at] = thing
            return (run.rows[alternative[3]], spots)
    if other is None:
        raise RunEnd(run.fault("none", p))
    return (run.rows[other], spots)


def back_deed(run, head, frame):
    _, row, spots = frame
    run.pile.append(("second", row, head))
    return (run.rows[row[4]], spots)


def back_second(run, head, frame):
    _, (_, p, word, _, _), one = frame
    if one[0] != "num" or head[0] != "num":
        raise RunEnd(run.fault("kind", p))
    told = worked(word, one[2], head[2])
    if told is True or told is False:
        return (None, ("con", p, TRUTHS[told], []))
    if told >= TOO_GREAT or told <= -TOO_GREAT:
        raise RunEnd(run.fault("great", p))
    return (None, ("num", p, told))


def back_ask(run, head, frame):
    run.asks -= 1
    frame[2][0] = head
    return (None, head)


def back_early(run, head, frame):
    _, row, spots = frame
    run.asks -= 1
    spots[row[2]] = head
    return (run.rows[row[5]], spots)


def back_now(run, head, frame):
    run.asks -= 1
    return (None, head)


BEGIN = {"call": begin_call, "let": begin_let, "fault": begin_fault, "early": begin_early, "now": begin_now}
BACK = {
    "call": back_call,
    "give": back_give,
    "case": back_case,
    "deed": back_deed,
    "second": back_second,
    "ask": back_ask,
    "early": back_early,
    "now": back_now,
}
