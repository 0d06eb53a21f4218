"""Looks back: costs by places and rows, runs gone by step for step, asks and the ways that led to them."""

from slumberway.answers import told_answer, told_costs
from slumberway.cores import refuse
from slumberway.errors import NoCount, NoStep
from slumberway.lexemes import lexemes
from slumberway.machines import MOST, refuse_program
from slumberway.runs import LONG, Run, ask_of, way_of

# What is asked of an asks' run.
DEPTH = 20
# How far a run is gone through ahead of the steps that are asked for, and by how much further each time.
FIRST_LOOK = 64
FURTHER = 8


def profile(program, costs, by):
    """Tell the sums of costs by the places or the rows at which they lie: (key, gone, made, asked), keys rising."""
    refuse(program)
    if by not in ("place", "row"):
        raise NoCount()
    places = program[0]
    sums = {}
    for p, *counts in costs:
        key = places[p] if by == "place" else places[p][0]
        add_counts(sums, key, counts)
    return [(key, *sums[key]) for key in sorted(sums)]


def add_counts(sums, key, counts):
    """Add gone, made and asked to the sums of a key."""
    gone, made, asked = sums.get(key, (0, 0, 0))
    more_gone, more_made, more_asked = counts
    sums[key] = (gone + more_gone, made + more_made, asked + more_asked)


def led_costs(text, costs, table):
    """Tell costs of a text's core by the places of another text, to which a table leads: rising."""
    places = [place for place, _, _ in lexemes(text)]
    return sorted([(table[places[p]], gone, made, asked) for p, gone, made, asked in costs])


def asks_of(program, x):
    """Tell the list of all asks in the shared run of a top, in order."""
    return [ask_of(frame) for frame in asked_frames(program, x)]


def asked_by(program, x, p, n):
    """Tell the way of the n-th ask at a place in the shared run of a top, with that ask last."""
    found = [frame for frame in asked_frames(program, x) if ask_of(frame)[0] == p]
    if not 0 <= n < len(found):
        raise NoStep()
    return way_of(found[n])


def asked_frames(program, x):
    """Tell the list of the frames of all asks in the shared run of a top, in order."""
    refuse_program(program, x, DEPTH, MOST)
    log = []
    told_answer(Run(program, MOST, True, log), x, DEPTH)
    return [frame for word, _, frame in log if word == "asked"]


class Steps:
    """A shared run gone by one part after the other, forth and back."""

    def __init__(self, program, x, *, depth=20, most=MOST):
        refuse_program(program, x, depth, most)
        places, _, tops = program
        self.program = (list(places), {}, list(tops))
        self.asked_for = (x, depth, most)
        # What is counted so far, by the numbers of places.
        self.gone = [0] * len(places)
        self.made = [0] * len(places)
        self.asked = [0] * len(places)
        # All that is counted in the run, as far as it was gone through, in order, and how it ends.
        self.events = []
        self.answer = LONG
        self.reach = 0
        self.look_further()
        # Of each part gone by, where among the events it stands; and the first of them that isn't counted yet.
        self.passed = []
        self.at = 0

    def look_further(self):
        """Go through the run from its begin once more, further than ahead."""
        x, depth, most = self.asked_for
        self.reach = min(most, max(FIRST_LOOK, self.reach * FURTHER))
        self.events = []
        run = Run(self.program, self.reach, True, self.events)
        self.answer = told_answer(run, x, depth)
        if self.answer != LONG or sum(run.gone) < self.reach:
            self.reach = most

    def next(self):
        """Tell the next part gone by, (p, way), or ("end", answer)."""
        _, _, most = self.asked_for
        while self.at == len(self.events) and self.reach < most:
            self.look_further()
        if self.at == len(self.events):
            return ("end", own_answer(self.answer))
        _, p, stack = self.events[self.at]
        self.passed.append(self.at)
        self.book(1)
        self.at += 1
        while self.at < len(self.events) and self.events[self.at][0] != "gone":
            self.book(1)
            self.at += 1
        return (p, way_of(stack))

    def book(self, step):
        """Count the event that is come to, or take it back."""
        word, p, _ = self.events[self.at]
        counts = self.gone if word == "gone" else self.made if word == "made" else self.asked
        counts[p] += step

    def back(self):
        """Take the last part gone by back; NoStep at the begin."""
        if not self.passed:
            raise NoStep()
        begin = self.passed.pop()
        while self.at > begin:
            self.at -= 1
            self.book(-1)

    def costs(self):
        """Tell what is counted so far, with all that is done ahead of the next part."""
        return told_costs(self)

    def __len__(self):
        return len(self.passed)


def own_answer(answer):
    """Tell an answer with a list of pieces of its own."""
    if answer[0] == "told":
        return ("told", answer[1], list(answer[2]))
    return answer
