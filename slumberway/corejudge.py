"""What is wrong with the parts of a thing that is no program, told of the first part with which anything is.

A part is judged at one look; only where that finds something wrong is it looked at again, for what it is. Whoever
judges tells None, or a list: the word of what is wrong, then the numbers that lead to it, the last one first.
"""

from slumberway.coreforms import DEEDS, MOST_THINGS, is_name, is_number, is_part, is_place_number, is_plain_name

LONGEST_PATH = 200


class Judge:
    """Goes by the parts of tops, in order, up to the first wrong one."""

    __slots__ = ("places", "data", "names", "many")

    def __init__(self, places, data, tops):
        self.places = places
        self.data = data
        # All names bound so far, and the tops: whether they stand around the part that is gone by.
        self.names = {x: True for x, _ in tops}
        # How many parts there are so far, but tops' own.
        self.many = 0

    def wrong_in(self, part, left):
        """Tell what is wrong with a part, and all in it; its path may have so many numbers more."""
        if not isinstance(part, tuple) or left < 0:
            return ["part"]
        if len(part) == 3:
            word, p, x = part
            if isinstance(p, int) and (1 < p < self.places or is_place_number(p, self.places)):
                if word == "name":
                    if isinstance(x, str) and x in self.names and self.names[x]:
                        return None
                elif word == "num" and is_number(x) or word == "fault" and is_plain_name(x):
                    return None
            return self.fault(part)
        if len(part) < 3:
            return ["part"]
        word = part[0]
        p = part[1]
        if not isinstance(p, int) or not (1 < p < self.places or is_place_number(p, self.places)):
            return ["part"]
        if word == "con":
            if len(part) == 4:
                _, _, maker, atoms = part
                if isinstance(maker, str) and self.are_right(atoms):
                    lot = self.data.get(maker)
                    if isinstance(lot, tuple) and (maker, len(atoms)) in lot:
                        return None
            return self.fault(part)
        if not isinstance(word, str) or word not in JUDGES:
            return ["part"]
        judged = JUDGES[word]
        return judged(self, part, left - 1)

    def fault(self, part):
        """Tell what is wrong with a part itself, of which something is."""
        if not is_part(part, self.places):
            return ["part"]
        if not all([self.is_there(maker, many) for maker, many in makers_of(part)]):
            return ["maker"]
        return ["free" if part[0] in ("name", "con", "call") else "twice"]

    def is_there(self, maker, many):
        """Tell whether the data has a maker with so many parts."""
        lot = self.data.get(maker)
        return isinstance(lot, tuple) and (maker, many) in lot

    def are_right(self, atoms):
        """Tell whether some atoms are right, and their names stand around."""
        if not isinstance(atoms, tuple) or len(atoms) > MOST_THINGS:
            return False
        places = self.places
        names = self.names
        for atom in atoms:
            if not isinstance(atom, tuple) or len(atom) != 3:
                return False
            word, p, x = atom
            if not isinstance(p, int) or not (1 < p < places or is_place_number(p, places)):
                return False
            if word == "name":
                if not isinstance(x, str) or x not in names or not names[x]:
                    return False
            elif word != "num" or not is_number(x):
                return False
        return True

    def bind(self, names, is_around):
        """Bind names; tell whether all of them are, none twice."""
        bound = self.names
        for name in names:
            if not isinstance(name, str) or name in bound or not is_name(name):
                return False
            bound[name] = is_around
        return True

    def are_alternatives(self, alternatives):
        """Tell whether a case's alternatives are right but for their parts, and bind their names."""
        if not isinstance(alternatives, tuple) or len(alternatives) > MOST_THINGS:
            return False
        seen = {}
        for alternative in alternatives:
            if not isinstance(alternative, tuple) or len(alternative) != 3:
                return False
            what, names, _ = alternative
            if not isinstance(names, tuple) or len(names) > MOST_THINGS:
                return False
            if isinstance(what, str):
                lot = self.data.get(what)
                if not isinstance(lot, tuple) or (what, len(names)) not in lot:
                    return False
            elif not is_number(what) or names:
                return False
            if what in seen or names and not self.bind(names, False):
                return False
            seen[what] = True
        return True


def makers_of(part):
    """Tell the list of (maker, how many parts) of a part itself."""
    if part[0] == "con":
        return [(part[2], len(part[3]))]
    if part[0] == "case":
        return [(what, len(names)) for what, names, _ in part[4] if isinstance(what, str)]
    return []


# What is wrong with parts that are tuples of four things or more, with a word and a place.

def call_wrong(judge, part, left):
    if len(part) == 4 and part[3] and judge.are_right(part[3]):
        f = part[2]
        if isinstance(f, tuple) and len(f) == 3 and f[0] == "name":
            _, p, x = f
            if is_place_number(p, judge.places) and isinstance(x, str) and judge.names.get(x):
                return None
    return judge.fault(part)


def fun_wrong(judge, part, left):
    if len(part) != 4:
        return ["part"]
    names = part[2]
    if not isinstance(names, tuple) or not 0 < len(names) <= MOST_THINGS or not judge.bind(names, True):
        return judge.fault(part)
    wrong = judge.wrong_in(part[3], left)
    if wrong is not None:
        wrong.append(0)
        return wrong
    judge.many += 1
    bound = judge.names
    for name in names:
        bound[name] = False
    return None


def let_wrong(judge, part, left):
    if len(part) != 4:
        return ["part"]
    bindings = part[2]
    if not isinstance(bindings, tuple) or not 0 < len(bindings) <= MOST_THINGS:
        return ["part"]
    bound = judge.names
    for binding in bindings:
        if not isinstance(binding, tuple) or len(binding) != 2:
            return ["part"]
        name = binding[0]
        if not isinstance(name, str) or name in bound or not is_name(name):
            return judge.fault(part)
        bound[name] = True
    number = 0
    for _, e in (*bindings, ("", part[3])):
        wrong = judge.wrong_in(e, left)
        if wrong is not None:
            wrong.append(number)
            return wrong
        number += 1
    judge.many += number
    for name, _ in bindings:
        bound[name] = False
    return None


def case_wrong(judge, part, left):
    if len(part) != 6:
        return ["part"]
    _, _, e, x, alternatives, other = part
    if not judge.bind((x,), False) or not judge.are_alternatives(alternatives):
        return judge.fault(part)
    wrong = judge.wrong_in(e, left)
    if wrong is not None:
        wrong.append(0)
        return wrong
    bound = judge.names
    bound[x] = True
    number = 1
    for _, names, one in alternatives if other is None else (*alternatives, ("", (), other)):
        for name in names:
            bound[name] = True
        wrong = judge.wrong_in(one, left)
        if wrong is not None:
            wrong.append(number)
            return wrong
        for name in names:
            bound[name] = False
        number += 1
    bound[x] = False
    judge.many += number
    return None


def deed_wrong(judge, part, left):
    if len(part) != 5 or not isinstance(part[2], str) or part[2] not in DEEDS:
        return ["part"]
    wrong = judge.wrong_in(part[3], left)
    if wrong is not None:
        wrong.append(0)
        return wrong
    wrong = judge.wrong_in(part[4], left)
    if wrong is not None:
        wrong.append(1)
        return wrong
    judge.many += 2
    return None


def early_wrong(judge, part, left):
    if not is_part(part, judge.places) or not judge.bind((part[2],), False):
        return judge.fault(part)
    wrong = judge.wrong_in(part[3], left)
    if wrong is not None:
        wrong.append(0)
        return wrong
    judge.names[part[2]] = True
    wrong = judge.wrong_in(part[5], left)
    if wrong is not None:
        wrong.append(1)
        return wrong
    judge.names[part[2]] = False
    judge.many += 2
    return None


def now_wrong(judge, part, left):
    if not is_part(part, judge.places):
        return ["part"]
    wrong = judge.wrong_in(part[4], left)
    if wrong is not None:
        wrong.append(0)
        return wrong
    judge.many += 1
    return None


JUDGES = {
    "call": call_wrong,
    "fun": fun_wrong,
    "let": let_wrong,
    "case": case_wrong,
    "deed": deed_wrong,
    "early": early_wrong,
    "now": now_wrong,
}
