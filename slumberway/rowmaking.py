"""The rows that programs are made to: parts by numbers, names by the spots where what they stand for is kept.

What a fun's part binds, all that is bound within and not below another fun, and what it keeps of what is around it,
has each a spot of its own in one list, made anew at each call; a top's part has such a list, too. Rows, by their words:

    ("rows", None, how many rows there are, how many places, how many tops)
    ("begin", None, x, row, spots), of each top
    ("num", p, n)
    ("own", p, spot) and ("top", p, number): names, by what they stand for
    ("con", p, C, atom, ..)
    ("call", p, f, atom, ..)
    ("fun", p, how many names, row, spots, ("keep", None, spot, name), ..): names at the first spots
    ("let", p, row, ("bind", None, spot, row), ..)
    ("case", p, row, spot, other's row or None, ("is", None, what, row, spot, ..), ..)
    ("deed", p, word, row, row)
    ("fault", p, word)
    ("early", p, spot, row, q, row)
    ("now", q, p, row)

An atom is a row of a num, an own or a top, straight within the other one.
"""

from slumberway.coreparts import bound_names, parts_within


def made_rows(program):
    """Tell the list of a program's rows."""
    places, _, tops = program
    making = RowMaking([x for x, _ in tops])
    begins = []
    for x, e in tops:
        scope = Scope(None, ())
        row = making.row_of(e, scope)
        begins.append(("begin", None, x, row, len(scope.spots)))
    return [("rows", None, making.ahead + len(making.rows), len(places), len(tops)), *begins, *making.rows]


class Scope:
    """The spots of one fun's names, or one top's."""

    def __init__(self, outer, names):
        self.outer = outer
        self.spots = {name: spot for spot, name in enumerate(names)}
        # The names of what is kept of what is around.
        self.kept = []

    def add_name(self, name):
        """Give a name a spot."""
        self.spots[name] = len(self.spots)
        return self.spots[name]

    def spot(self, name):
        """Tell the spot of a name; what stands further out is kept in all scopes between."""
        scopes = [self]
        while name not in scopes[-1].spots:
            scopes.append(scopes[-1].outer)
        for scope in scopes[-2::-1]:
            scope.kept.append(name)
            scope.add_name(name)
        return self.spots[name]


class RowMaking:
    """The rows so far."""

    def __init__(self, tops):
        self.tops = {x: number for number, x in enumerate(tops)}
        # Ahead of these rows stand the first one and the tops'.
        self.ahead = 1 + len(tops)
        self.rows = []

    def row_of(self, e, scope):
        """Make the rows of a part and all within it; tell the number of its own."""
        # The numbers of the rows of parts that are done, the last one last.
        done = []
        pile = [(e, scope, False)]
        while pile:
            part, scope, is_behind = pile.pop()
            inner = parts_within(part)
            if is_behind or not inner:
                at = len(done) - len(inner)
                row = ROWS[part[0]]
                told = row(self, part, scope, done[at:])
                done[at:] = [self.added(told)]
                continue
            inside = scope
            if part[0] == "fun":
                inside = Scope(scope, part[2])
            else:
                for name in bound_names(part):
                    scope.add_name(name)
            pile.append((part, inside, True))
            pile.extend([(one, inside, False) for one in inner[::-1]])
        return done[0]

    def added(self, row):
        self.rows.append(row)
        return self.ahead + len(self.rows) - 1

    def atom(self, atom, scope):
        word, p, x = atom
        if word == "num":
            return atom
        if x in self.tops:
            return ("top", p, self.tops[x])
        return ("own", p, scope.spot(x))

    def atoms(self, atoms, scope):
        return [self.atom(atom, scope) for atom in atoms]


# What row is made of a part, by the numbers of the rows of the parts straight within it.

def same_row(making, part, scope, inner):
    return part


def name_row(making, part, scope, inner):
    return making.atom(part, scope)


def con_row(making, part, scope, inner):
    _, p, maker, atoms = part
    return ("con", p, maker, *making.atoms(atoms, scope))


def call_row(making, part, scope, inner):
    _, p, f, atoms = part
    return ("call", p, *making.atoms((f, *atoms), scope))


def fun_row(making, part, scope, inner):
    _, p, names, _ = part
    around = scope.outer
    kept = [("keep", None, scope.spots[name], making.atom(("name", p, name), around)) for name in scope.kept]
    return ("fun", p, len(names), inner[0], len(scope.spots), *kept)


def let_row(making, part, scope, inner):
    _, p, bindings, _ = part
    bound = [("bind", None, scope.spots[name], row) for (name, _), row in zip(bindings, inner)]
    return ("let", p, inner[-1], *bound)


def case_row(making, part, scope, inner):
    _, p, _, x, alternatives, other = part
    told = []
    for (what, names, _), row in zip(alternatives, inner[1:]):
        told.append(("is", None, what, row, *[scope.spots[name] for name in names]))
    return ("case", p, inner[0], scope.spots[x], None if other is None else inner[-1], *told)


def deed_row(making, part, scope, inner):
    return ("deed", part[1], part[2], *inner)


def early_row(making, part, scope, inner):
    _, p, x, _, q, _ = part
    return ("early", p, scope.spots[x], inner[0], q, inner[1])


def now_row(making, part, scope, inner):
    return ("now", part[1], part[2], inner[0])


ROWS = {
    "num": same_row,
    "name": name_row,
    "con": con_row,
    "call": call_row,
    "fun": fun_row,
    "let": let_row,
    "case": case_row,
    "deed": deed_row,
    "fault": same_row,
    "early": early_row,
    "now": now_row,
}
