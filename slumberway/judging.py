"""The groups of a text's tree gone by in their order, each by the meeting of its demands."""

from slumberway.demanding import Demanding, maker_shapes
from slumberway.errors import Clash, Endless
from slumberway.groups import groups
from slumberway.looked import look
from slumberway.meeting import Meeting, Table
from slumberway.reader import tree_of


def read(text):
    """Tell the tree of a text, refused as looked_at does."""
    tree = tree_of(text)
    look(tree)
    return tree


def judged(tree):
    """Tell the judging of a tree that was looked at; Clash or Endless of a fault."""
    judging = Judging(tree)
    judging.go_through()
    return judging


def with_demands(meeting, found, numbers):
    """Tell a meeting of its own that has met some demands more, those of the numbers."""
    told = meeting.twin()
    for number in numbers:
        _, one, other = found[number]
        told.meet(one, other)
    return told


class Judging:
    """The groups of a tree, and what was met of them so far."""

    def __init__(self, tree):
        self.groups = groups([line for line in tree if line[0] == "def"])
        self.meeting = Meeting(Table(), {})
        self.demanding = Demanding(self.meeting, maker_shapes(tree))
        self.tops = self.demanding.tops
        # The demands of the last group, and which of them can't be met.
        self.demands = []
        self.fault = None

    def text(self, node, names):
        return self.meeting.text(node, names)

    def blank(self):
        """Tell a meeting that has met nothing."""
        return Meeting(self.meeting.table, {})

    def go_through(self):
        for group in self.groups:
            self.go_by(group)

    def meet_all(self, group):
        """Meet the demands of a group, up to the first that can't be met."""
        self.demands, found = self.demanding.group_demands(group)
        self.tops.update(found)
        for number, (_, one, other) in enumerate(self.demands):
            self.meeting.meet(one, other)
            if not self.meeting.whole:
                self.fault = number
                return

    def go_by(self, group):
        """Meet the demands of a group; Clash or Endless where they can't be met."""
        self.meet_all(group)
        if self.fault is None:
            return
        numbers = list(range(self.fault))
        ahead = with_demands(self.blank(), self.demands, numbers)
        place, one, other = self.demands[self.fault]
        names = {}
        one = ahead.text(one, names)
        other = ahead.text(other, names)
        if self.meeting.endless:
            raise Endless(place, one, other)
        raise Clash(place, one, other)
