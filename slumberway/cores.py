"""Programs: their addresses, their parts, and what is wrong with things that are none."""

from slumberway.coreforms import is_number, is_plain_name, is_whole
from slumberway.corejudge import LONGEST_PATH, Judge
from slumberway.coreparts import WITHIN, asked_names, parts_within, scoped_within, with_parts
from slumberway.errors import NoAddress, NoProgram

MOST_PARTS = 4000
MOST_TOPS = 60
# Rows and columns of hardly any place are greater; what is not is a number for sure, where it is greater than a truth.
FAR = 10 ** 6


def addresses(program):
    """Tell the list of all addresses of a program."""
    refuse(program)
    told = []
    for x, e in program[2]:
        add_addresses(x, e, (), told)
    return told


def add_addresses(x, part, path, told):
    """Add the addresses of a part and all within it."""
    told.append((x, path))
    if part[0] in WITHIN:
        for number, inner in enumerate(parts_within(part)):
            add_addresses(x, inner, (*path, number), told)


def part_at(program, address):
    """Tell the part at an address; NoAddress where there is none."""
    refuse(program)
    return way_down(program, address)[-1]


def with_part(program, address, other):
    """Tell a program with another part, whatever it is, at an address."""
    refuse(program)
    places, data, tops = program
    return (list(places), dict(data), tops_with(program, address, other))


def tops_with(program, address, other):
    """Tell the list of a program's tops with another part at an address."""
    way = way_down(program, address)
    x, path = address
    for part, number in zip(way[-2::-1], path[::-1]):
        parts = parts_within(part)
        parts[number] = other
        other = with_parts(part, parts)
    return [(name, other if name == x else e) for name, e in program[2]]


def named(e):
    """Tell the sorted list of the names that stand free in a part."""
    told = {}
    # How many binders of a name stand around what is gone by.
    around = {}
    # Parts, and where names begin and end to stand around them, the next one last.
    pile = [e]
    while pile:
        part = pile.pop()
        if part[0] == "around":
            _, names, step = part
            for name in names:
                around[name] = around.get(name, 0) + step
            continue
        for name in asked_names(part):
            if not around.get(name):
                told[name] = True
        for inner, names in scoped_within(part)[::-1]:
            pile.extend([("around", names, -1), inner, ("around", names, 1)] if names else [inner])
    return sorted(told)


def program_wrong(thing):
    """Tell None of a program, of anything else the first that is wrong with it."""
    wrong = frame_wrong(thing)
    return wrong if wrong is not None else parts_wrong(thing, judge_of(thing))


def refuse(program):
    """Refuse what is no program; tell the judge that went by all its parts."""
    wrong = frame_wrong(program)
    if wrong is not None:
        raise NoProgram(wrong)
    judge = judge_of(program)
    wrong = parts_wrong(program, judge)
    if wrong is not None:
        raise NoProgram(wrong)
    return judge


def judge_of(program):
    places, data, tops = program
    return Judge(len(places), data, tops)


def way_down(program, address):
    """Tell the list of the parts on the way to an address, the one there last."""
    _, _, tops = program
    if not isinstance(address, tuple) or len(address) != 2:
        raise NoAddress(address)
    x, path = address
    told = [e for name, e in tops if isinstance(x, str) and name == x]
    if not told or not isinstance(path, tuple):
        raise NoAddress(address)
    for number in path:
        parts = parts_within(told[-1])
        if not is_whole(number) or not 0 <= number < len(parts):
            raise NoAddress(address)
        told.append(parts[number])
    return told


def frame_wrong(thing):
    """Tell what is wrong with a program's frame: its three things, its places, the names of its tops."""
    if not isinstance(thing, tuple) or len(thing) != 3:
        return ("program",)
    places, data, tops = thing
    if not isinstance(places, list) or not isinstance(data, dict) or not isinstance(tops, list):
        return ("program",)
    wrong = places_wrong(places)
    if wrong is not None:
        return wrong
    seen = {}
    for number, top in enumerate(tops):
        if not isinstance(top, tuple) or len(top) != 2 or not is_plain_name(top[0]) or top[0] in seen:
            return ("top", number)
        seen[top[0]] = True
    return None


def places_wrong(places):
    """Tell the first of some places that is none."""
    for number, place in enumerate(places):
        if not isinstance(place, tuple) or len(place) != 2:
            return ("places", number)
        row, column = place
        if not isinstance(row, int) or not 1 < row < FAR and not (is_number(row) and row > 0):
            return ("places", number)
        if not isinstance(column, int) or not 1 < column < FAR and not (is_number(column) and column > 0):
            return ("places", number)
    return None


def parts_wrong(program, judge):
    """Tell what is wrong with a program's parts, where its frame is right."""
    _, _, tops = program
    for x, e in tops:
        wrong = judge.wrong_in(e, LONGEST_PATH)
        if wrong is not None:
            return (wrong[0], (x, tuple(wrong[:0:-1])))
    if judge.many + len(tops) > MOST_PARTS or len(tops) > MOST_TOPS:
        return ("great",)
    return None
