"""Kinds of cores, by a text's data: the widest ones of a program's tops, and whether they are the text's own."""

from slumberway.coreparts import asked_names, parts_in
from slumberway.cores import refuse
from slumberway.errors import NoKinds
from slumberway.groups import grouped
from slumberway.judging import judged
from slumberway.quick import Makers
from slumberway.reader import tree_of
from slumberway.solving import NUM, TRUTH, Clashing, Solver, pieces_text

COMPARING = ("below", "same")


def core_kinds(text, program):
    """Tell a dict from a program's tops, sorted, to the texts of their widest kinds; NoKinds where it has none."""
    tree = tree_of(text)
    judged(tree, False)
    schemes = schemes_of(tree, program)
    return {x: pieces_text(schemes[x], {}) for x in sorted(schemes)}


def kinds_kept(text, program):
    """Tell whether a program has a text's tops, and kinds of which the text's come."""
    tree = tree_of(text)
    judging = judged(tree, False)
    try:
        schemes = schemes_of(tree, program)
    except NoKinds:
        return False
    if sorted(schemes) != sorted(judging.tops):
        return False
    return all([comes_of(judging.scheme(x), schemes[x]) for x in schemes])


def schemes_of(tree, program):
    """Tell a dict from a program's tops to the pieces of their kinds; NoProgram, then NoKinds."""
    refuse(program)
    kinding = CoreKinding(tree, program)
    try:
        for group in grouped(used_tops(program)):
            kinding.add_group(group)
    except Clashing:
        raise NoKinds()
    return kinding.schemes


def used_tops(program):
    """Tell a dict from a program's tops to the lists of those that each names."""
    _, _, tops = program
    there = {x: True for x, _ in tops}
    told = {}
    for x, e in tops:
        found = {}
        for part in parts_in(e):
            for name in asked_names(part):
                if name in there:
                    found[name] = True
        told[x] = list(found)
    return told


class CoreKinding:
    """The kinds of a program's tops so far, by the makers of a text's tree."""

    def __init__(self, tree, program):
        self.solver = Solver()
        self.makers = Makers(tree, self.solver)
        self.parts = {x: e for x, e in program[2]}
        # The pieces of the kinds of tops of groups that are done, and the kinds of all names that have just one.
        self.schemes = {}
        self.names = {}

    def add_group(self, group):
        """Find the kinds of tops that name one another."""
        for x in group:
            self.names[x] = self.solver.letter()
        for x in group:
            self.solver.meet(self.names[x], self.kind(self.parts[x]))
        for x in group:
            self.schemes[x] = self.solver.pieces(self.names.pop(x))

    def kind(self, part):
        kind_of = KINDS[part[0]]
        return kind_of(self, part)

    def letter(self, name):
        """Give a name a kind of its own."""
        self.names[name] = self.solver.letter()
        return self.names[name]

    def name_kind(self, x):
        return self.names[x] if x in self.names else self.solver.anew(self.schemes[x])

    def atom(self, atom):
        return NUM if atom[0] == "num" else self.name_kind(atom[2])

    def made(self, maker, many):
        """Tell the kinds of a maker's parts, and of its data."""
        if maker not in self.makers.shapes:
            raise NoKinds()
        parts, whole = self.makers.kinds(maker)
        if len(parts) != many:
            raise NoKinds()
        return (parts, whole)


# The kind of a part, behind all that its own parts demand.

def num_kind(kinding, part):
    return NUM


def name_kind(kinding, part):
    return kinding.name_kind(part[2])


def con_kind(kinding, part):
    _, _, maker, atoms = part
    parts, whole = kinding.made(maker, len(atoms))
    for atom, kind in zip(atoms, parts):
        kinding.solver.meet(kinding.atom(atom), kind)
    return whole


def call_kind(kinding, part):
    _, _, f, atoms = part
    letter = kinding.solver.letter()
    wanted = kinding.solver.leading([kinding.atom(atom) for atom in atoms], letter)
    kinding.solver.meet(kinding.atom(f), wanted)
    return letter


def fun_kind(kinding, part):
    letters = [kinding.letter(name) for name in part[2]]
    return kinding.solver.leading(letters, kinding.kind(part[3]))


def let_kind(kinding, part):
    for name, _ in part[2]:
        kinding.letter(name)
    for name, e in part[2]:
        kinding.solver.meet(kinding.names[name], kinding.kind(e))
    return kinding.kind(part[3])


def case_kind(kinding, part):
    _, _, e, x, alternatives, other = part
    asked = kinding.kind(e)
    kinding.names[x] = asked
    told = kinding.solver.letter()
    for what, names, inner in alternatives:
        whole = NUM
        if isinstance(what, str):
            parts, whole = kinding.made(what, len(names))
            kinding.names.update(dict(zip(names, parts)))
        kinding.solver.meet(asked, whole)
        kinding.solver.meet(told, kinding.kind(inner))
    if other is not None:
        kinding.solver.meet(told, kinding.kind(other))
    return told


def deed_kind(kinding, part):
    _, _, word, one, other = part
    kinding.solver.meet(kinding.kind(one), NUM)
    kinding.solver.meet(kinding.kind(other), NUM)
    return TRUTH if word in COMPARING else NUM


def fault_kind(kinding, part):
    return kinding.solver.letter()


def early_kind(kinding, part):
    kinding.names[part[2]] = kinding.kind(part[3])
    return kinding.kind(part[5])


def now_kind(kinding, part):
    return kinding.kind(part[4])


KINDS = {
    "num": num_kind,
    "name": name_kind,
    "con": con_kind,
    "call": call_kind,
    "fun": fun_kind,
    "let": let_kind,
    "case": case_kind,
    "deed": deed_kind,
    "fault": fault_kind,
    "early": early_kind,
    "now": now_kind,
}


def comes_of(told, wide):
    """Tell whether a kind comes of a wide one by kinds in the place of letters; both are told by their pieces."""
    at = 0
    # From letters of the wide one to the pieces of the kinds in their place.
    letters = {}
    for piece in wide:
        if isinstance(piece, int):
            end = kind_end(told, at)
            if letters.setdefault(piece, told[at:end]) != told[at:end]:
                return False
            at = end
        elif told[at] != piece:
            return False
        else:
            at += 1
    return True


def kind_end(pieces, at):
    """Tell the spot behind the kind that begins at a spot of pieces."""
    left = 1
    while left > 0:
        piece = pieces[at]
        left += (0 if isinstance(piece, int) else piece[1]) - 1
        at += 1
    return at
