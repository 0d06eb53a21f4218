"""What a part of a program surely asks first."""

from slumberway.cores import refuse, way_down

PLAIN = ("num", "con", "fun")
SURE_DEEDS = ("below", "same")
# Calls are gone through so many within one another.
MOST_CALLS = 4
# What is kept of a name that a case (its x) or an early binds.
HEAD = ("head",)


def first_ask(program, address):
    """Tell (x, q) of what the part at an address asks first, ahead of all else that could end or go on; or None."""
    refuse(program)
    way = way_down(program, address)
    _, data, tops = program
    bound = {x: e for x, e in tops}
    for part in way:
        keep_bound(part, bound)
    return asked_first(way[-1], bound, data)


def keep_bound(part, bound):
    """Keep of the names that a part binds, but those of funs and alternatives, the parts they are bound to, or HEAD."""
    word = part[0]
    if word == "let":
        for name, e in part[2]:
            bound[name] = e
    elif word == "case":
        bound[part[3]] = HEAD
    elif word == "early":
        bound[part[2]] = HEAD


def asked_first(e, bound, data):
    """Tell what a part asks first; bound tells what the names around it are bound to, and is given those within."""
    asking = Asking(bound, data)
    told = None
    # All parts of which one asks first for sure, each with the names that are exchanged in it, None in the stead of
    # a number, how many calls it is within, and the names of the lets that were come to.
    pile = [(e, {}, 0, ())]
    while pile:
        part, exchanged, calls, lets = pile.pop()
        keep_bound(part, bound)
        if part[0] != "name":
            step = STEPS.get(part[0])
            inner = step(asking, part, exchanged, calls, lets) if step else []
            if not inner:
                return None
            pile.extend(inner)
            continue
        x = exchanged.get(part[2], part[2])
        if x in lets or asking.is_held(x) or told not in (None, (x, part[1])):
            return None
        told = (x, part[1])
    return told


class Asking:
    """What names are bound to, and the makers' lots."""

    def __init__(self, bound, data):
        self.bound = bound
        self.data = data

    def is_held(self, name):
        """Tell whether a name, as exchanged, stands for a head for sure."""
        if name is None:
            return True
        return name in self.bound and (self.bound[name] == HEAD or self.bound[name][0] in PLAIN)

    def is_sure(self, part, exchanged):
        """Tell whether a part comes to a head without an ask or a fault."""
        pile = [part]
        while pile:
            part = pile.pop()
            if part[0] == "name":
                if not self.is_held(exchanged.get(part[2], part[2])):
                    return False
            elif part[0] == "deed" and part[2] in SURE_DEEDS:
                pile.extend([part[4], part[3]])
            elif part[0] not in PLAIN:
                return False
        return True

    def is_whole(self, part):
        """Tell whether a case surely has a part for its head: other, or alternatives of all makers of a lot."""
        _, _, _, _, alternatives, other = part
        if other is not None:
            return True
        makers = [what for what, _, _ in alternatives]
        if not makers or not isinstance(makers[0], str):
            return False
        return all([maker in makers for maker, _ in self.data[makers[0]]])


# Of parts of each word, those that ask first in their stead; none where nobody knows.

def call_step(asking, part, exchanged, calls, lets):
    _, _, (_, _, f), atoms = part
    if f in exchanged or calls == MOST_CALLS:
        return []
    fun = asking.bound.get(f, HEAD)
    if fun[0] != "fun" or len(fun[2]) != len(atoms):
        return []
    inner = dict(exchanged)
    for name, (word, _, x) in zip(fun[2], atoms):
        inner[name] = None if word == "num" else exchanged.get(x, x)
    return [(fun[3], inner, calls + 1, lets)]


def let_step(asking, part, exchanged, calls, lets):
    return [(part[3], exchanged, calls, (*lets, *[name for name, _ in part[2]]))]


def deed_step(asking, part, exchanged, calls, lets):
    inner = part[4] if asking.is_sure(part[3], exchanged) else part[3]
    return [(inner, exchanged, calls, lets)]


def case_step(asking, part, exchanged, calls, lets):
    _, _, e, _, alternatives, other = part
    if not asking.is_sure(e, exchanged):
        return [(e, exchanged, calls, lets)]
    if not asking.is_whole(part):
        return []
    inner = [one for _, _, one in alternatives]
    if other is not None:
        inner.append(other)
    return [(one, exchanged, calls, lets) for one in inner]


STEPS = {"call": call_step, "let": let_step, "deed": deed_step, "case": case_step}
