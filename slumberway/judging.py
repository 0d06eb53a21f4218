"""The kinds of trees, and what demand it is that can't be met, where they have none."""

from slumberway.demanding import Demanding, key_of, maker_shapes
from slumberway.errors import Clash, Endless
from slumberway.groups import groups
from slumberway.looked import look
from slumberway.quick import quick_of
from slumberway.solving import Clashing, Solver


def judged(tree, is_kept):
    """Tell a tree's kinds, those of its expressions, too, where they are kept; refused as kinds is."""
    judging = gone_through(tree, is_kept)
    refuse_fault(judging)
    return judging


def gone_through(tree, is_kept):
    """Tell what is found of a tree, up to its first group that is at fault; refused as looked_at does."""
    quick = quick_of(tree, is_kept)
    if quick is None:
        look(tree)
        quick = Judging(tree)
    quick.solve({})
    return quick


def refuse_fault(judging):
    """Refuse what is at fault; Clash or Endless of the first demand that can't be met."""
    if judging.fault is None:
        return
    ahead = with_demands(judging.base(), judging.demands, list(range(judging.fault)))
    place, one, other = judging.demands[judging.fault]
    names = {}
    one_text = ahead.text(one, names)
    other_text = ahead.text(other, names)
    if ahead.could_be(one, other):
        raise Endless(place, one_text, other_text)
    raise Clash(place, one_text, other_text)


def with_demands(solver, found, numbers):
    """Tell a solver that has met some demands more, those of the numbers; None where they can't be met."""
    if solver is None:
        return None
    told = solver.twin()
    try:
        for number in numbers:
            _, one, other = found[number]
            told.meet(one, other)
    except Clashing:
        return None
    return told


class Judging:
    """What was found of a tree's groups as far as they were gone by, with piles in the stead of calls within calls.

    The same may be asked of it as of what is found at one go.
    """

    def __init__(self, tree):
        self.groups = groups([line for line in tree if line[0] == "def"])
        self.solver = Solver()
        self.demanding = Demanding(self.solver, maker_shapes(tree))
        self.tops = self.demanding.tops
        # The number of the group that is gone by, its demands, and the first of them that can't be met.
        self.at = 0
        self.demands = []
        self.fault = None

    def solve(self, names):
        """Go by the groups in their order, up to the begin of that of some names, or to the first that is at fault."""
        while self.at < len(self.groups):
            group = self.groups[self.at]
            self.demands, found = self.demanding.group_demands(group)
            if [one for one in group if one[2] in names]:
                return
            self.tops.update(found)
            self.meet_demands()
            if self.fault is not None:
                return
            self.at += 1

    def meet_demands(self):
        """Meet the group's demands, up to the first that can't be met."""
        number = 0
        try:
            for _, one, other in self.demands:
                self.solver.meet(one, other)
                number += 1
        except Clashing:
            self.fault = number

    def base(self):
        """Tell a solver that has met none of the group's demands; of other groups' tops it has kinds made anew."""
        return self.solver.blank()

    def scheme(self, x):
        """Tell the pieces of a top's kind."""
        return self.solver.pieces(self.tops[x])

    def top_text(self, x):
        return self.solver.text(self.tops[x], {})

    def text_at(self, x, e):
        """Tell the text of the kind of an expression in a top's def."""
        names = {}
        self.solver.text(self.tops[x], names)
        return self.solver.text(self.demanding.kinds[key_of(e)], names)

    def maker_text(self, maker):
        parts, whole = self.demanding.maker_kinds(maker)
        return self.solver.text(self.solver.leading(parts, whole), {})
