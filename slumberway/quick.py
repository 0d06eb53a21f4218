"""The kinds of a whole tree at one go, for texts that are not refused; of others no more than that something is odd.

Each def is gone by once: the kinds of its parts, and its demands, are told with a letter for each top that is named.
Then the groups are gone by in their order: those letters are what the tops are by then, and demands are met. It goes
by calls within calls, so trees of parts that stand deep in one another are odd to it, too.
"""

from slumberway.groups import grouped
from slumberway.solving import ARROW, NUM, TRUTH, Clashing, Solver, pieces_text

DEEPEST = 60
NUMBERS = ("+", "-", "*")


class Odd(Exception):
    """Something for which a tree is to be looked at more closely."""


def quick_of(tree, is_kept):
    """Tell what is found of a tree at one go; None where it is to be looked at more closely."""
    try:
        return Quick(tree, is_kept)
    except Odd:
        return None


class Makers:
    """The makers of a tree's data, for a solver's kinds; Odd where the data are not in order."""

    def __init__(self, tree, solver):
        self.solver = solver
        # From makers to (kind's word, letters, kinds of the parts).
        self.shapes = {"True": ("Truth", (), ()), "False": ("Truth", (), ())}
        datas = [line for line in tree if line[0] == "data"]
        counts = {"Num": 0, "Truth": 0}
        for _, _, word, letters, _ in datas:
            if word in counts:
                raise Odd()
            counts[word] = len(letters)
        for _, _, word, letters, mades in datas:
            names = tuple([name for _, name in letters])
            there = {name: True for name in names}
            if len(there) < len(names):
                raise Odd()
            for _, maker, kinds in mades:
                if maker in self.shapes or not are_kinds(kinds, there, counts):
                    raise Odd()
                self.shapes[maker] = (word, names, kinds)

    def kinds(self, maker):
        """Tell the kinds of a maker's parts, a list, and of its data, with letters of their own."""
        word, names, kinds = self.shapes[maker]
        if word == "Truth":
            return ([], TRUTH)
        solver = self.solver
        letters = {name: solver.letter() for name in names}
        whole = solver.made(word, tuple(letters.values()))
        return ([self.told(kind, letters) for kind in kinds], whole)

    def told(self, kind, letters):
        """Tell the kind that stands in a data."""
        if kind[0] == "letter":
            return letters[kind[2]]
        word, parts = (ARROW, kind[2:]) if kind[0] == "to" else kind[2:]
        if not parts and word == "Num":
            return NUM
        if not parts and word == "Truth":
            return TRUTH
        return self.solver.made(word, tuple([self.told(part, letters) for part in parts]))


def are_kinds(kinds, letters, counts):
    """Tell whether all kinds in a data are there, with as many parts as told."""
    pile = list(kinds)
    while pile:
        kind = pile.pop()
        if kind[0] == "letter":
            if kind[2] not in letters:
                return False
        elif kind[0] == "to":
            pile.extend(kind[2:])
        elif counts.get(kind[2]) == len(kind[3]):
            pile.extend(kind[3])
        else:
            return False
    return True


class Quick:
    """What was found of a tree's defs, and of its groups as far as they were gone by."""

    def __init__(self, tree, is_kept):
        self.solver = Solver()
        self.makers = Makers(tree, self.solver)
        # The kinds of the tops, and of all other names that are there, None where one isn't.
        self.tops = {}
        self.names = {}
        # The kinds of all expressions by their words and places, where they are asked for.
        self.kept = {} if is_kept else None
        # Of the def that is gone by, then of the group: the demands, (place, one, other).
        self.demands = []
        # The tops that the def names, each with a letter.
        self.uses = []
        self.found = {}
        self.defs = [line for line in tree if line[0] == "def"]
        self.add_tops()
        used = {name: [x for x, _ in uses] for name, (_, uses) in self.found.items()}
        tops = {one[2]: one for one in self.defs}
        self.groups = [[tops[name] for name in group] for group in grouped(used)]
        # The pieces of the tops' kinds, of groups that are done.
        self.schemes = {}
        # The number of the group that is gone by, and what nodes stood for ahead of its demands; the first of these
        # that can't be met, where that was come to.
        self.at = 0
        self.ahead = []
        self.fault = None

    def add_tops(self):
        lanes = []
        for one in self.defs:
            letters, side = self.begin_def(one)
            if one[2] in self.tops:
                raise Odd()
            self.tops[one[2]] = self.solver.leading(letters, side)
            lanes.append((letters, side))
        for one, (letters, side) in zip(self.defs, lanes):
            self.demands = []
            self.uses = []
            self.add_rules(one, letters, side, 0)
            self.found[one[2]] = (self.demands, self.uses)

    def begin_def(self, one):
        """Tell letters for a def's patterns, and one for its sides."""
        letters = [self.solver.letter() for _ in one[3][0][1]]
        return (letters, self.solver.letter())

    def add_rules(self, one, letters, side, deep):
        for _, patterns, sides in one[3]:
            if len(patterns) != len(letters):
                raise Odd()
            self.add_rule(patterns, letters, sides, side, deep)

    def add_rule(self, patterns, kinds, sides, side, deep):
        """Add what an equation or a choice demands."""
        # From the names that it binds to what they are around it.
        bound = {}
        for pattern, kind in zip(patterns, kinds):
            if pattern[0] == "bind":
                self.bind(pattern[2], kind, bound)
            elif pattern[0] != "any":
                self.add_pattern(pattern, kind, bound)
        for guard, e in sides:
            if guard is not None:
                self.demands.append((guard[1], self.kind(guard, deep), TRUTH))
            self.demands.append((e[1], self.kind(e, deep), side))
        self.names.update(bound)

    def bind(self, name, kind, bound):
        if name in bound:
            raise Odd()
        bound[name] = self.names.get(name)
        self.names[name] = kind

    def add_pattern(self, pattern, kind, bound):
        """Add what a pattern of a place of some kind demands."""
        word = pattern[0]
        if word == "bind":
            self.bind(pattern[2], kind, bound)
        elif word == "num":
            self.demands.append((pattern[1], kind, NUM))
        elif word == "made":
            if pattern[2] not in self.makers.shapes:
                raise Odd()
            parts, whole = self.makers.kinds(pattern[2])
            if len(parts) != len(pattern[3]):
                raise Odd()
            for part, part_kind in zip(pattern[3], parts):
                self.add_pattern(part, part_kind, bound)
            self.demands.append((pattern[1], kind, whole))

    def kind(self, e, deep):
        """Tell the kind of an expression that stands so deep."""
        word = e[0]
        if word == "name":
            kind = self.names.get(e[2])
            if kind is None:
                if e[2] not in self.tops:
                    raise Odd()
                kind = self.solver.letter()
                self.uses.append((e[2], kind))
        elif word == "num":
            kind = NUM
        else:
            if deep > DEEPEST:
                raise Odd()
            kind_of = KINDS[word]
            kind = kind_of(self, e, deep + 1)
        if self.kept is not None:
            self.kept[(word, e[1])] = kind
        return kind

    def solve(self, names):
        """Go by the groups in their order, up to the begin of that of some names, or to the first that is at fault."""
        while self.at < len(self.groups):
            group = self.groups[self.at]
            self.begin_group(group)
            if [one for one in group if one[2] in names]:
                return
            self.meet_demands()
            if self.fault is not None:
                return
            self.at += 1

    def begin_group(self, group):
        """Gather a group's demands, and let the letters of all tops that it names be what these are."""
        stands = self.solver.stands
        own = {one[2]: self.tops[one[2]] for one in group}
        self.demands = []
        for name in own:
            demands, uses = self.found[name]
            self.demands.extend(demands)
            for x, letter in uses:
                stands[letter] = own[x] if x in own else self.top_anew(x)
        self.ahead = list(stands)

    def meet_demands(self):
        """Meet the group's demands, up to the first that can't be met."""
        solver = self.solver
        number = 0
        try:
            for _, one, other in self.demands:
                solver.meet(one, other)
                number += 1
        except Clashing:
            self.fault = number

    def base(self):
        """Tell a solver that has met none of the group's demands."""
        told = self.solver.twin()
        told.stands = list(self.ahead)
        return told

    def top_anew(self, x):
        """Tell the kind of a top of a group that is done, with letters of its own."""
        pieces = self.scheme(x)
        if [piece for piece in pieces if isinstance(piece, int)]:
            return self.solver.anew(pieces)
        return self.tops[x]

    def scheme(self, x):
        """Tell the pieces of the kind of a top of a group that is done."""
        if x not in self.schemes:
            self.schemes[x] = self.solver.pieces(self.tops[x])
        return self.schemes[x]

    def top_text(self, x):
        return pieces_text(self.scheme(x), {})

    def text_at(self, x, e):
        """Tell the text of the kind of an expression in a top's def; kinds have to be kept."""
        names = {}
        pieces_text(self.scheme(x), names)
        return pieces_text(self.solver.pieces(self.kept[(e[0], e[1])]), names)

    def maker_text(self, maker):
        parts, whole = self.makers.kinds(maker)
        return pieces_text(self.solver.pieces(self.solver.leading(parts, whole)), {})


def maker_kind(quick, e, deep):
    if e[2] not in quick.makers.shapes:
        raise Odd()
    parts, whole = quick.makers.kinds(e[2])
    return quick.solver.leading(parts, whole)


def call_kind(quick, e, deep):
    solver = quick.solver
    kind = quick.kind(e[2], deep)
    kinds = [quick.kind(part, deep) for part in e[3]]
    for part, told in zip(e[3], kinds):
        letter = solver.letter()
        quick.demands.append((part[1], kind, solver.made(ARROW, (told, letter))))
        kind = letter
    return kind


def op_kind(quick, e, deep):
    _, _, sign, left, right = e
    one = quick.kind(left, deep)
    other = quick.kind(right, deep)
    quick.demands.extend([(left[1], one, NUM), (right[1], other, NUM)])
    return NUM if sign in NUMBERS else TRUTH


def fun_kind(quick, e, deep):
    bound = {}
    letters = []
    for _, name in e[2]:
        letters.append(quick.solver.letter())
        quick.bind(name, letters[-1], bound)
    told = quick.solver.leading(letters, quick.kind(e[3], deep))
    quick.names.update(bound)
    return told


def let_kind(quick, e, deep):
    bound = {}
    lanes = []
    for one in e[2]:
        letters, side = quick.begin_def(one)
        lanes.append((letters, side))
        quick.bind(one[2], quick.solver.leading(letters, side), bound)
    for one, (letters, side) in zip(e[2], lanes):
        quick.add_rules(one, letters, side, deep)
    told = quick.kind(e[3], deep)
    quick.names.update(bound)
    return told


def if_kind(quick, e, deep):
    _, _, asked, one, other = e
    truth = quick.kind(asked, deep)
    told = quick.kind(one, deep)
    alike = quick.kind(other, deep)
    quick.demands.extend([(asked[1], truth, TRUTH), (other[1], alike, told)])
    return told


def case_kind(quick, e, deep):
    thing = quick.kind(e[2], deep)
    letter = quick.solver.letter()
    for _, pattern, sides in e[3]:
        quick.add_rule((pattern,), (thing,), sides, letter, deep)
    return letter


KINDS = {
    "maker": maker_kind,
    "call": call_kind,
    "op": op_kind,
    "fun": fun_kind,
    "let": let_kind,
    "if": if_kind,
    "case": case_kind,
}
