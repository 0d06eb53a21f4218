"""Programs: their addresses, their parts, and what is wrong with things that are none."""

from slumberway.coreforms import is_part, is_place, is_plain_name, is_whole
from slumberway.coreparts import all_parts, asked_names, bound_names, parts_within, scoped_within, with_parts
from slumberway.errors import NoAddress, NoProgram

MOST_PARTS = 4000
MOST_TOPS = 60
LONGEST_PATH = 200


def addresses(program):
    """Tell the list of all addresses of a program."""
    refuse(program)
    _, _, tops = program
    return [(x, path) for x, e in tops for path, _ in all_parts(e)]


def part_at(program, address):
    """Tell the part at an address; NoAddress where there is none."""
    refuse(program)
    return way_down(program, address)[-1]


def with_part(program, address, other):
    """Tell a program with another part, whatever it is, at an address."""
    refuse(program)
    way = way_down(program, address)
    x, path = address
    for part, number in zip(way[-2::-1], path[::-1]):
        parts = parts_within(part)
        parts[number] = other
        other = with_parts(part, parts)
    places, data, tops = program
    return (list(places), dict(data), [(name, other if name == x else e) for name, e in tops])


def named(e):
    """Tell the sorted list of the names that stand free in a part."""
    told = []
    around = {}
    pile = [("part", e)]
    while pile:
        word, thing = pile.pop()
        if word == "part":
            told.extend([name for name in asked_names(thing) if around.get(name, 0) == 0])
            for inner, names in reversed(scoped_within(thing)):
                pile.extend([("leave", names), ("part", inner), ("enter", names)])
        else:
            step = 1 if word == "enter" else -1
            for name in thing:
                around[name] = around.get(name, 0) + step
    return sorted(set(told))


def program_wrong(thing):
    """Tell None of a program, of anything else the first that is wrong with it."""
    wrong = frame_wrong(thing)
    if wrong is not None:
        return wrong
    places, data, tops = thing
    judge = Judge(len(places), data, [x for x, _ in tops])
    for x, e in tops:
        wrong = judge.first_wrong(x, e)
        if wrong is not None:
            return wrong
    if judge.count > MOST_PARTS or len(tops) > MOST_TOPS:
        return ("great",)
    return None


def refuse(program):
    """Refuse what is no program."""
    wrong = program_wrong(program)
    if wrong is not None:
        raise NoProgram(wrong)


def way_down(program, address):
    """Tell the list of the parts on the way to an address, the one there last."""
    _, _, tops = program
    if not isinstance(address, tuple) or len(address) != 2:
        raise NoAddress(address)
    x, path = address
    told = [e for name, e in tops if isinstance(x, str) and name == x]
    if not told or not isinstance(path, tuple):
        raise NoAddress(address)
    for number in path:
        parts = parts_within(told[-1])
        if not is_whole(number) or not 0 <= number < len(parts):
            raise NoAddress(address)
        told.append(parts[number])
    return told


def frame_wrong(thing):
    """Tell what is wrong with a program's frame: its three things, its places, the names of its tops."""
    if not isinstance(thing, tuple) or len(thing) != 3:
        return ("program",)
    places, data, tops = thing
    if not isinstance(places, list) or not isinstance(data, dict) or not isinstance(tops, list):
        return ("program",)
    for number, place in enumerate(places):
        if not is_place(place):
            return ("places", number)
    seen = {}
    for number, top in enumerate(tops):
        if not isinstance(top, tuple) or len(top) != 2 or not is_plain_name(top[0]) or top[0] in seen:
            return ("top", number)
        seen[top[0]] = True
    return None


class Judge:
    """Goes by the parts of a program's tops, in order, up to the first wrong one."""

    def __init__(self, places, data, tops):
        self.places = places
        self.data = data
        self.count = 0
        # All names bound so far and the tops, and those of them that stand around the part gone by.
        self.bound = {x: True for x in tops}
        self.around = {x: True for x in tops}

    def first_wrong(self, x, e):
        """Tell what is wrong with a top's parts."""
        pile = [("part", (), e)]
        while pile:
            word, path, thing = pile.pop()
            if word == "enter":
                self.around.update({name: True for name in thing})
            elif word == "leave":
                self.around.update({name: False for name in thing})
            else:
                why = self.why(path, thing)
                if why is not None:
                    return (why, (x, path))
                self.count += 1
                inner = scoped_within(thing)
                for number in reversed(range(len(inner))):
                    part, names = inner[number]
                    step = ("part", (*path, number), part)
                    pile.extend([("leave", (), names), step, ("enter", (), names)] if names else [step])
        return None

    def why(self, path, part):
        """Tell the word of what is wrong with one part, and bind its names."""
        if len(path) > LONGEST_PATH or not is_part(part, self.places):
            return "part"
        if not all([self.is_there(maker, many) for maker, many in makers_of(part)]):
            return "maker"
        for name in bound_names(part):
            if name in self.bound:
                return "twice"
            self.bound[name] = True
        if not all([self.around.get(name, False) for name in asked_names(part)]):
            return "free"
        return None

    def is_there(self, maker, many):
        """Tell whether the data has a maker with so many parts."""
        lot = self.data.get(maker)
        return isinstance(lot, tuple) and (maker, many) in lot


def makers_of(part):
    """Tell the list of (maker, how many parts) of a part itself."""
    if part[0] == "con":
        return [(part[2], len(part[3]))]
    if part[0] == "case":
        return [(what, len(names)) for what, names, _ in part[4] if isinstance(what, str)]
    return []
