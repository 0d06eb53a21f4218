"""Turnings of programs: whether they may be done, what comes of them, all that may be done one behind the other."""

from slumberway.coreforms import is_number
from slumberway.corejudge import LONGEST_PATH
from slumberway.coreparts import all_parts
from slumberway.cores import MOST_PARTS, refuse, tops_with, way_down
from slumberway.errors import NoAddress, NoTurn
from slumberway.turnrules import PARTS, RULES, WHYS, is_small
from slumberway.turnviews import View

# A program with no more parts, and no longer paths, is never too great behind one turn.
FEW_PARTS = 1900
SHORT_PATH = 95


def turn_wrong(program, turn):
    """Tell None of a turn that may be done, of anything else the first that is wrong with it."""
    refuse(program)
    wrong, _ = tried(program, turn)
    return wrong


def turned(program, turn):
    """Tell the program behind a turn; NoTurn where it may not be done."""
    refuse(program)
    wrong, part = tried(program, turn)
    if wrong is not None:
        raise NoTurn(wrong)
    places, data, _ = program
    return (list(places), dict(data), tops_with(program, turn[1], part))


def all_turned(program, *, most=200):
    """Tell a program behind all turns that may be done, and the list of them."""
    refuse(program)
    places, data, tops = program
    program = (list(places), dict(data), list(tops))
    turns = []
    while len(turns) < most:
        turn, part = first_turn(View(program))
        if turn is None:
            break
        turns.append(turn)
        program = (program[0], program[1], tops_with(program, turn[1], part))
    return (program, turns)


def rows_wrong(program, turns):
    """Tell the number of the first turn of a list that may not be done behind those ahead; None where all may."""
    refuse(program)
    for number, turn in enumerate(turns):
        wrong, part = tried(program, turn)
        if wrong is not None:
            return number
        program = (program[0], program[1], tops_with(program, turn[1], part))
    return None


def tried(program, turn):
    """Tell what is wrong with a turn, None where nothing is, and the part that comes of it."""
    if not is_turn(turn):
        return (("turn",), None)
    rule, address, *more = turn
    try:
        way = way_down(program, address)
    except NoAddress:
        return (("address",), None)
    word, is_counted = RULES[rule]
    if way[-1][0] != word or is_counted and more[0] >= len(way[-1][2]):
        return (("rule",), None)
    view = View(program)
    number = view.number_at(address)
    k = more[0] if is_counted else None
    why_of = WHYS[rule]
    why = why_of(view, number, k)
    if why is not None:
        return (("why", why), None)
    part_of = PARTS[rule]
    part = part_of(view, number, k)
    if is_great(view, number, part):
        return (("great",), None)
    return (None, part)


def is_turn(thing):
    """Tell whether a thing is a turn by form."""
    if not isinstance(thing, tuple) or len(thing) < 2 or not isinstance(thing[0], str) or thing[0] not in RULES:
        return False
    _, is_counted = RULES[thing[0]]
    return len(thing) == 3 and is_number(thing[2]) if is_counted else len(thing) == 2


def is_great(view, number, part):
    """Tell whether a program with another part has too many parts, or too long a path."""
    if len(view.parts) <= FEW_PARTS and view.deepest <= SHORT_PATH:
        return False
    paths = [path for path, _ in all_parts(part)]
    if len(view.parts) - (view.ends[number] - number) + len(paths) > MOST_PARTS:
        return True
    _, path = view.address(number)
    return len(path) + max([len(inner) for inner in paths]) > LONGEST_PATH


def first_turn(view):
    """Tell the first turn that may be done, and the part that comes of it; None, None where there is none."""
    for rule, (word, is_counted) in RULES.items():
        why_of = WHYS[rule]
        part_of = PARTS[rule]
        for number in view.found[word]:
            spots = list(range(len(view.parts[number][2]))) if is_counted else [None]
            for k in spots:
                if why_of(view, number, k) is not None or rule == "put" and not is_small(view, number):
                    continue
                part = part_of(view, number, k)
                if not is_great(view, number, part):
                    address = view.address(number)
                    return ((rule, address, k) if is_counted else (rule, address), part)
    return (None, None)
