"""A look at a text's tree: whether all that it names is there, once, and with as many parts as told."""

from slumberway.errors import Counts, Parts, Twice, Unknown
from slumberway.quick import quick_of
from slumberway.reader import tree_of
from slumberway.walks import all_kinds, all_patterns, free_names, steps

KINDS_AHEAD = ("Num", "Truth")
MAKERS_AHEAD = ("True", "False")


def looked_at(text):
    """Tell None of a text, or refuse: NoSign, NoReading, Twice, Counts, Unknown, Parts, the first that is due."""
    tree = tree_of(text)
    if quick_of(tree, False) is None:
        look(tree)


def look(tree):
    """Refuse a tree as looked_at does a text."""
    datas = [line for line in tree if line[0] == "data"]
    defs = [line for line in tree if line[0] == "def"]
    all_steps = steps(defs)
    faults = twice_faults(datas, defs, all_steps)
    if faults:
        later, earlier = first_of(faults)
        raise Twice(later, earlier)
    faults = count_faults(all_steps)
    if faults:
        raise Counts(min(faults))
    faults = unknown_faults(datas, defs, all_steps)
    if faults:
        place, word = first_of(faults)
        raise Unknown(place, word)
    faults = parts_faults(datas, all_steps)
    if faults:
        raise Parts(min(faults))


def first_of(faults):
    """Tell the fault whose place, told first in it, is the first."""
    return min(faults, key=lambda fault: fault[0])


def repeated(found, ahead):
    """Tell the (later, earlier) places of the words that come again; those ahead have no place."""
    there = {word: None for word in ahead}
    told = []
    for place, word in found:
        if word in there:
            told.append((place, there[word]))
        else:
            there[word] = place
    return told


def twice_faults(datas, defs, all_steps):
    told = repeated([(data[1], data[2]) for data in datas], KINDS_AHEAD)
    makers = [(place, maker) for data in datas for place, maker, _ in data[4]]
    told.extend(repeated(makers, MAKERS_AHEAD))
    for data in datas:
        told.extend(repeated(data[3], ()))
    told.extend(repeated([(one[1], one[2]) for one in defs], ()))
    for step in all_steps:
        if step[0] == "hide":
            told.extend(repeated(step[1], ()))
    return told


def count_faults(all_steps):
    told = []
    for step in all_steps:
        if step[0] == "def":
            count = len(step[3][0][1])
            told.extend([place for place, patterns, _ in step[3] if len(patterns) != count])
    return told


def kind_counts(datas):
    """Tell a dict from the kinds that are there to how many parts they have."""
    counts = {word: 0 for word in KINDS_AHEAD}
    for data in datas:
        counts[data[2]] = len(data[3])
    return counts


def maker_counts(datas):
    """Tell a dict from the makers that are there to how many parts they have."""
    counts = {word: 0 for word in MAKERS_AHEAD}
    for data in datas:
        for _, maker, kinds in data[4]:
            counts[maker] = len(kinds)
    return counts


def told_kinds(data):
    """Tell the list of all kinds that stand in a data."""
    return all_kinds([kind for _, _, kinds in data[4] for kind in kinds])


def made_patterns(all_steps):
    """Tell the list of all patterns that have a maker."""
    told = []
    for step in all_steps:
        if step[0] == "rule":
            told.extend([pattern for pattern in all_patterns(step[2]) if pattern[0] == "made"])
    return told


def unknown_faults(datas, defs, all_steps):
    kinds = kind_counts(datas)
    makers = maker_counts(datas)
    told = []
    for data in datas:
        letters = [name for _, name in data[3]]
        for kind in told_kinds(data):
            if kind[0] == "kind" and kind[2] not in kinds:
                told.append((kind[1], kind[2]))
            elif kind[0] == "letter" and kind[2] not in letters:
                told.append((kind[1], kind[2]))
    found = made_patterns(all_steps)
    found.extend([step for step in all_steps if step[0] == "maker"])
    told.extend([(place, maker) for _, place, maker, *_ in found if maker not in makers])
    tops = [one[2] for one in defs]
    told.extend([(place, name) for place, name in free_names(defs) if name not in tops])
    return told


def parts_faults(datas, all_steps):
    kinds = kind_counts(datas)
    makers = maker_counts(datas)
    told = []
    for data in datas:
        told.extend([kind[1] for kind in told_kinds(data) if kind[0] == "kind" and len(kind[3]) != kinds[kind[2]]])
    for _, place, maker, parts in made_patterns(all_steps):
        if len(parts) != makers[maker]:
            told.append(place)
    return told
