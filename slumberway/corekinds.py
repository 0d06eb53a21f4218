"""Kinds of cores, by a text's data: the widest ones of a program's tops, and whether they are the text's own."""

from slumberway.coreparts import asked_names, parts_in
from slumberway.cores import refuse
from slumberway.errors import NoKinds
from slumberway.groups import grouped
from slumberway.judging import judged, read

COMPARING = ("below", "same")


def core_kinds(text, program):
    """Tell a dict from a program's tops, sorted, to the texts of their widest kinds; NoKinds where it has none."""
    kinding = kinds_of(judged(read(text)), program)
    meeting = kinding.meeting
    return {x: meeting.text(kinding.tops[x], {}) for x in sorted(kinding.tops)}


def kinds_kept(text, program):
    """Tell whether a program has a text's tops, and kinds of which the text's come."""
    judging = judged(read(text))
    try:
        kinding = kinds_of(judging, program)
    except NoKinds:
        return False
    if sorted(kinding.tops) != sorted(judging.tops):
        return False
    return all([comes_of(judging.meeting, judging.tops[x], kinding.tops[x]) for x in kinding.tops])


def kinds_of(judging, program):
    """Tell the kinds of a program that a text's judging has makers for; NoProgram, then NoKinds."""
    refuse(program)
    kinding = CoreKinding(judging, program)
    for group in grouped(used_tops(program)):
        kinding.add_group(group)
    return kinding


def used_tops(program):
    """Tell a dict from a program's tops to the lists of those that each names."""
    _, _, tops = program
    there = {x: True for x, _ in tops}
    told = {}
    for x, e in tops:
        found = {}
        for part in parts_in(e):
            for name in asked_names(part):
                if name in there:
                    found[name] = True
        told[x] = list(found)
    return told


class CoreKinding:
    """The kinds of a program's tops so far."""

    def __init__(self, judging, program):
        self.meeting = judging.meeting
        self.table = judging.meeting.table
        self.demanding = judging.demanding
        self.number = judging.demanding.number
        self.truth = judging.demanding.truth
        self.parts = {x: e for x, e in program[2]}
        # The kinds of the tops of groups that are done, and of all names that have just one.
        self.tops = {}
        self.names = {}
        # Letters that stand for other kinds since the last look at whether these have an end.
        self.bound = []

    def add_group(self, group):
        """Find the kinds of tops that name one another."""
        for x in group:
            self.names[x] = self.table.letter()
        for x in group:
            self.same(self.names[x], self.kind(self.parts[x]))
        if not self.meeting.whole or self.meeting.turns_back(self.bound):
            raise NoKinds()
        self.bound = []
        for x in group:
            self.tops[x] = self.names.pop(x)

    def same(self, one, other):
        self.bound.extend(self.meeting.united(one, other))

    def kind(self, part):
        kind_of = KINDS[part[0]]
        return kind_of(self, part)

    def letter(self, name):
        """Give a name a kind of its own."""
        self.names[name] = self.table.letter()
        return self.names[name]

    def name_kind(self, x):
        return self.names[x] if x in self.names else self.meeting.anew(self.tops[x])

    def atom(self, atom):
        return self.number if atom[0] == "num" else self.name_kind(atom[2])

    def made(self, maker, many):
        """Tell the kinds of a maker's parts, and of its data."""
        if maker not in self.demanding.makers:
            raise NoKinds()
        parts, whole = self.demanding.maker_kinds(maker)
        if len(parts) != many:
            raise NoKinds()
        return (parts, whole)


# The kind of a part, behind all that its own parts demand.

def num_kind(kinding, part):
    return kinding.number


def name_kind(kinding, part):
    return kinding.name_kind(part[2])


def con_kind(kinding, part):
    _, _, maker, atoms = part
    parts, whole = kinding.made(maker, len(atoms))
    for atom, kind in zip(atoms, parts):
        kinding.same(kinding.atom(atom), kind)
    return whole


def call_kind(kinding, part):
    _, _, f, atoms = part
    letter = kinding.table.letter()
    kinding.same(kinding.atom(f), kinding.table.leading([kinding.atom(atom) for atom in atoms], letter))
    return letter


def fun_kind(kinding, part):
    letters = [kinding.letter(name) for name in part[2]]
    return kinding.table.leading(letters, kinding.kind(part[3]))


def let_kind(kinding, part):
    for name, _ in part[2]:
        kinding.letter(name)
    for name, e in part[2]:
        kinding.same(kinding.names[name], kinding.kind(e))
    return kinding.kind(part[3])


def case_kind(kinding, part):
    _, _, e, x, alternatives, other = part
    asked = kinding.kind(e)
    kinding.names[x] = asked
    told = kinding.table.letter()
    for what, names, inner in alternatives:
        whole = kinding.number
        if isinstance(what, str):
            parts, whole = kinding.made(what, len(names))
            kinding.names.update(dict(zip(names, parts)))
        kinding.same(asked, whole)
        kinding.same(told, kinding.kind(inner))
    if other is not None:
        kinding.same(told, kinding.kind(other))
    return told


def deed_kind(kinding, part):
    _, _, word, one, other = part
    kinding.same(kinding.kind(one), kinding.number)
    kinding.same(kinding.kind(other), kinding.number)
    return kinding.truth if word in COMPARING else kinding.number


def fault_kind(kinding, part):
    return kinding.table.letter()


def early_kind(kinding, part):
    kinding.names[part[2]] = kinding.kind(part[3])
    return kinding.kind(part[5])


def now_kind(kinding, part):
    return kinding.kind(part[4])


KINDS = {
    "num": num_kind,
    "name": name_kind,
    "con": con_kind,
    "call": call_kind,
    "fun": fun_kind,
    "let": let_kind,
    "case": case_kind,
    "deed": deed_kind,
    "fault": fault_kind,
    "early": early_kind,
    "now": now_kind,
}


def comes_of(meeting, kind, wide):
    """Tell whether a kind comes of a wide one by kinds in the place of letters."""
    told = pieces_of(meeting, kind)
    at = 0
    # From letters of the wide one to the pieces of the kinds in their place.
    letters = {}
    for piece in pieces_of(meeting, wide):
        if piece[0] is None:
            end = kind_end(told, at)
            if letters.setdefault(piece[1], told[at:end]) != told[at:end]:
                return False
            at = end
        elif told[at] != piece:
            return False
        else:
            at += 1
    return True


def pieces_of(meeting, kind):
    """Tell a kind's pieces, from the left: (word, how many parts), or (None, a letter's node)."""
    told = []
    pile = [kind]
    while pile:
        node = pile.pop()
        made = meeting.parts(node)
        if made is None:
            told.append((None, meeting.root(node)))
        else:
            told.append((made[0], len(made[1])))
            pile.extend(made[1][::-1])
    return told


def kind_end(pieces, at):
    """Tell the spot behind the kind that begins at a spot of pieces."""
    left = 1
    while left > 0:
        word, many = pieces[at]
        left += (0 if word is None else many) - 1
        at += 1
    return at
